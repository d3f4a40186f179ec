/-
  Several texts in one: The code's fields: names with types, one behind another. · The library's contract of slices.SortFunc, laid over this translation at the names with types. · The code's sort of names with types.
-/
import Derived.Test.YtbknmokamcjgpaaGreatDoorJ16
import Derived.Shelf.SlSortCmp.WholeK
import Derived.Ground.SlsfProg
import Derived.Test.YtbknmokamcjgpaaGreatDoorProg
import Derived.Test.YtbknmokamcjgpaaGreatDoorShelf
import Derived.Sort.OwnSorted
/- The code's fields: names with types, one behind another. -/
namespace Go.Proofs.YtbknmokamcjgpaaGreatDoor
open Go.RowKit
open Go.Sort
open M

theorem nm_info : (Tryz.prog.info? 184).map (fun i => (i.zero, i.size, i.bytes)) = some (some (.agg #[.string ⟨#[]⟩, .int .i64 0, .string ⟨#[]⟩, .int .i64 0, .string ⟨#[]⟩, .string ⟨#[]⟩, .slice none 0 0, .slice none 0 0]), 8, 128) := by kernel_rfl
theorem field_ok {S : Toks} {k : Int} {g d i c j c' : Nat} {ns : List ByteArray} {s : ByteArray} {t : Ty} (h : fieldR S k g d i c ns = .ok (s, t) j c') : ns.length < 20 ∧ twice (S.T i) ns = false ∧ s = S.T i ∧ i < j ∧ i < S.n := by
  unfold fieldR at h
  split at h
  · cases h
  rename_i hn
  split at h
  · cases h
  rename_i h20
  split at h
  · cases h
  rename_i ht
  split at h
  · cases h
  have hf := (fw_all S g).1 (d + 1) (i + 2) c
  cases e : pT S g (d + 1) (i + 2) c with
  | err b q => rw [e] at h; cases h
  | ok u q cq =>
    rw [e] at h hf
    cases h
    have hf' : i + 2 < j := hf
    exact ⟨by omega, by simpa using ht, rfl, by omega, name_lt (by simpa using hn)⟩
/-- What stands behind a field. -/
def contP (S : Toks) (k : Int) (z : List UInt8) (g d i c : Nat) (P : List FdT) : Res Ty :=
  if S.sign i z = true then .ok (Ty.mk k ⟨#[]⟩ 0 ⟨#[]⟩ ⟨#[]⟩ (insN P) (insS P)) (i + 1) c else if S.sign i [44] = false then .err 2 i else pParts S k z g d (i + 1) c (insN P) (insS P)
/-- What stands behind the last one. -/
def shutP (S : Toks) (k : Int) (z : List UInt8) (i c : Nat) (P : List FdT) : Res Ty := if S.sign i z = true then .ok (Ty.mk k ⟨#[]⟩ 0 ⟨#[]⟩ ⟨#[]⟩ (insN P) (insS P)) (i + 1) c else .err 2 i
theorem parts_field (S : Toks) (k : Int) (z : List UInt8) (g d i c : Nat) (P : List FdT) : pParts S k z (g + 1) d i c (insN P) (insS P) = match fieldR S k g d i c (insN P) with
    | .err b j => .err b j
    | .ok x j c' => contP S k z g d j c' (P ++ [x]) := by
  rw [parts_eq]
  unfold fieldR behindR
  split
  · rfl
  split
  · rfl
  split
  · rfl
  split
  · rfl
  cases pT S g (d + 1) (i + 2) c with
  | err b j => rfl
  | ok s j c' =>
    show (if _ then _ else _) = contP S k z g d j c' (P ++ [(S.T i, s)])
    unfold contP
    rw [insN_snoc, insS_snoc]
theorem parts_cont {S : Toks} {k : Int} {z : List UInt8} {g d i c b2 i2 c2 : Nat} {P : List FdT} {x : FdT} (h : fieldR S k g d i c (insN P) = badR b2 i2 (.ok x i2 c2)) :
    pParts S k z (g + 1) d i c (insN P) (insS P) = badR b2 i2 (contP S k z g d i2 c2 (P ++ [x])) := by
  rw [parts_field, h]
  by_cases hb : b2 = 0
  · subst hb; rfl
  · rw [badR_ne _ _ hb, badR_ne _ _ hb]
theorem contP_no {S : Toks} {k : Int} {z : List UInt8} {g d i c b : Nat} {P : List FdT} (h : (decide (b = 0) && S.sign i [44]) = false) : badR b i (contP S k z g d i c P) = badR b i (shutP S k z i c P) := by
  by_cases hb : b = 0
  · subst hb
    have h4 : S.sign i [44] = false := by simpa using h
    unfold contP shutP
    rw [if_pos h4]
  · exact badR_bad hb
theorem contP_yes {S : Toks} {k : Int} {z : List UInt8} {g d i c b : Nat} {P : List FdT} (hz : z ≠ [44]) (h : (decide (b = 0) && S.sign i [44]) = true) : b = 0 ∧ S.sign i [44] = true ∧ badR b i (contP S k z g d i c P) = pParts S k z g d (i + 1) c (insN P) (insS P) := by
  simp at h
  obtain ⟨rfl, h4⟩ := h
  refine ⟨rfl, h4, ?_⟩
  rw [badR_0]
  unfold contP
  rw [if_neg (by rw [sign_one h4 hz.symm]; decide), if_neg (by rw [h4]; decide)]
theorem shutP_res {S : Toks} {k : Int} {z : List UInt8} {i c b : Nat} {P : List FdT} : badR b i (shutP S k z i c P) = badR (psB b (S.sign i z)) (psI b (S.sign i z) i) (.ok (Ty.mk k ⟨#[]⟩ 0 ⟨#[]⟩ ⟨#[]⟩ (insN P) (insS P)) (psI b (S.sign i z) i) c) := by
  rw [sign_res (S.sign i z) b i (fun j => Res.ok (Ty.mk k ⟨#[]⟩ 0 ⟨#[]⟩ ⟨#[]⟩ (insN P) (insS P)) j c)]
  unfold shutP
  by_cases h : S.sign i z = true
  · rw [if_pos h, if_neg (by rw [h]; decide)]
  · rw [if_neg h, if_pos (by simpa using h)]
theorem any_fd (P : List Nt) (s : ByteArray) : P.any (fun x => x.1.s.data.toList == s.data.toList) = twice s (insN (fdOf P)) := by
  rw [twice_ins]
  unfold fdOf
  rw [List.any_map]
  rfl
theorem nodup_snoc {P : List Nt} {x : Nt} (h : ((fdOf P).map (·.1)).Nodup) (ht : twice x.1.s (insN (fdOf P)) = false) : ((fdOf (P ++ [x])).map (·.1)).Nodup := by
  rw [fdOf_snoc, List.map_append]
  refine List.nodup_append.2 ⟨h, by simp, fun a ha b hb e => ?_⟩
  subst e
  simp at hb
  rw [twice_ins, List.any_eq_false] at ht
  obtain ⟨y, hy, rfl⟩ := List.mem_map.1 ha
  refine ht y hy ?_
  rw [hb]; simp

/-- While the code reads fields. -/
structure CfI (w : World) (cu r : Nat) (A : Option Addr) (S : Toks) (cn : Nat) (k : Int) (z : List UInt8) (d f : Nat) (F : Res Ty) (P : List Nt) (n : Nat) (v : Value) (i c b g : Nat) (wr : World) : Prop where
  kp : KQ cu r w wr
  rows : NmR w.heap.size P n v wr
  rd : RSt cu r A S.n cn i c b wr
  fin : F = badR b i (contP S k z g d i c (fdOf P))
  fuel : g ≤ f
  some : n ≤ 21
  most : b = 0 → n ≤ 20
  cnt : c ≤ 500
  apart : b = 0 → ((fdOf P).map (·.1)).Nodup
/-- What the fields leave. -/
def CfOut (w : World) (cu r : Nat) (A : Option Addr) (S : Toks) (cn : Nat) (k : Int) (z : List UInt8) (F : Res Ty) (e : Ending) (w' : World) : Prop :=
  ∃ (P : List Nt) (n : Nat) (v : Value) (i c b : Nat), e = .returned v ∧ KQ cu r w w' ∧ NmR w.heap.size P n v w' ∧ RSt cu r A S.n cn i c b w' ∧
    F = badR b i (shutP S k z i c (fdOf P)) ∧ n ≤ 21 ∧ 1 ≤ n ∧ c ≤ 500 ∧ (b = 0 → ((fdOf P).map (·.1)).Nodup)

set_option maxRecDepth 100000 in
set_option maxHeartbeats 4000000 in
theorem fields_any {W : World} {cu r : Nat} {A : Option Addr} {S : Toks} {cn i c f d d' : Nat} {k : Int} {z : List UInt8} {w : World} (RD : ∀ g, g < f → CReadOk W cu r A S cn g) (hc : RCtx W cu r A S w) (h : RSt cu r A S.n cn i c 0 w) (hc5 : c ≤ 500) (hd : d' = d + 1) (hd5 : d' ≤ 1000000)
    (fi : Nat) (p : Int → ByteArray → Bool) (hf : AsksOk fi p) (hp0 : p 0 ⟨#[]⟩ = false) (hpk : ∀ i, (decide (i < S.n) && p (S.K i) (S.T i)) = S.nameOk k i) (hz : z ≠ [44]) (F : Res Ty) (hF : F = pParts S k z f d i c [] []) (hne : ∀ j, F ≠ .err 99 j) :
    Calls Tryz.prog 128 #[.pointer (some ⟨r, 0, none⟩), .func (.func fi) #[] #[], .int .i64 d'] w (CfOut w cu r A S cn k z F) := by
  have hr := h.lt
  have hq0 := h.qlt
  have hbig := hc.cur.big
  obtain ⟨f', rfl⟩ : ∃ f', f = f' + 1 := by
    cases f with
    | zero => exact absurd (by rw [hF]; unfold pParts; rfl) (hne 0)
    | succ f' => exact ⟨f', rfl⟩
  have HNE := Lib.hid hne
  have RDD := Lib.hid RD
  have HC := Lib.hid hc
  have HD := Lib.hid hd
  have HAF := Lib.hid hf
  have HPK := Lib.hid hpk
  have HP0 := Lib.hid hp0
  have hF' : F = pParts S k z (f' + 1) d i c (insN []) (insS []) := hF
  have HRE := Lib.hid (field_any (RD f' (by omega)) hc h hc5 hd hd5 fi p hf hp0 hpk (NmR.start w.heap.size w) (by omega) (insN (fdOf [])) rfl (any_fd []) (fun _ j e => hne j (by
    rw [hF', parts_field]
    have e' : fieldR S k f' d i c (insN []) = .err 99 j := e
    rw [e'])))
  have HF := Lib.hid hF'
  clear hne RD hc h hd hF hF' hf hpk hp0
  go_enter Tryz.func128, Tryz.ntmps128
  go_wp2_with fail
  refine HRE.out.mono ?_; rintro e w1 ⟨x, t, i1, c1, b1, rfl, hs1x, hT1, k1, h1, hc1, hres⟩
  rw [badR_0] at hres
  unfold Nv.enc
  obtain ⟨w2, hw2⟩ : ∃ w2, w2 = w1.alloc (.cells #[.string x.s, .int .i64 x.k, .string x.p, .int .i64 x.m, .string x.d, .string x.n, .slice x.A5 x.n5 x.c5, .slice x.A6 x.n6 x.c6] 184) := ⟨_, rfl⟩
  have B2 : Below w1.heap.size w1 w2 := by rw [hw2]; exact below_new (Below.refl _ _) _
  have s2 : w2.heap.size = w1.heap.size + 1 := by rw [hw2]; simp
  have s1 := k1.size
  have INV : Hid (CfI w cu r A S cn k z d (f' + 1) F [(x, t)] 1 (.slice (some ⟨w1.heap.size, 0, none⟩) 1 1) i1 c1 b1 f' w2) := Lib.hid (by
    refine ⟨k1.trans (KQ.of_below B2), ?_, h1.below B2, ?_, by omega, by omega, fun _ => by omega, hc1, fun _ => by simp [fdOf]⟩
    · refine NmR.first (x := (x, t)) s1 (by rw [hw2]; exact heap_alloc_new w1 _) hs1x (hT1.move (by omega) fun b hb hS => ⟨?_, B2.block b hb⟩)
      rintro (e | e)
      · exact hS e
      · omega
    · rw [HF.out]
      exact parts_cont (P := []) (x := (x.s, t)) hres.symm)
  have HW2 := Lib.hid hw2
  clear hT1 k1 h1 hres hw2 B2 s2 s1 HRE HF
  go_wp2_with fail
  rw [← HW2.out]
  go_loopw [7] (fun m wr => ∃ (P : List Nt) (n : Nat) (i c b g : Nat), Hid (CfI w cu r A S cn k z d (f' + 1) F P n m i c b g wr) ∧ 1 ≤ n) (fun _ wr => cuM cu S.n wr)
  case atStart => exact ⟨[(x, t)], 1, i1, c1, b1, f', INV, Nat.le_refl _⟩
  case round =>
    obtain ⟨P, n, i, c, b, g, HI, hn1⟩ := hrel
    obtain ⟨wo, rfl⟩ : ∃ wo : World, wo = wr := ⟨_, rfl⟩
    obtain ⟨A7, c7, rfl, -⟩ := HI.out.rows.cell
    have R := HI.out.rd
    have p0 := R.p
    have C0 := HC.out.on HI.out.kp
    have SK := Lib.hid (rskip_any C0 R ⟨#[44]⟩)
    have HC0 := Lib.hid C0
    have hso := HI.out.kp.size
    clear R C0
    go_wp2_with fail
    refine SK.out.mono ?_; rintro e w3 ⟨rfl, h3, k3⟩
    obtain ⟨v, hv⟩ : ∃ v, (decide (b = 0) && S.sign i (ByteArray.mk #[44]).data.toList) = v := ⟨_, rfl⟩
    rw [hv]
    have HV : Hid ((decide (b = 0) && S.sign i [44]) = v) := Lib.hid hv
    have hs3 := k3.size
    have K3 := HI.out.kp.trans k3
    have ROW3 := HI.out.rows.keep hs3 (fun b' hb hlt => k3.blk hlt (by omega))
    clear hv SK
    cases v with
    | false =>
      have hps : psI b (S.sign i (ByteArray.mk #[44]).data.toList) i = i := by
        have := HV.out
        unfold psI
        rw [if_neg]
        rintro ⟨e1, e2⟩
        rw [e1] at this
        have e2' : S.sign i [44] = true := e2
        rw [e2'] at this; cases this
      rw [hps] at h3
      have OUT : Hid (CfOut w cu r A S cn k z F (.returned (.slice A7 n c7)) w3) := Lib.hid ⟨P, n, _, i, c, b, rfl, K3, ROW3, h3, by rw [HI.out.fin]; exact contP_no HV.out, HI.out.some, hn1, HI.out.cnt, HI.out.apart⟩
      clear h3 k3 K3 ROW3 hps HI HC0
      go_wp2_with fail
      go_ret
      exact OUT.out
    | true =>
      obtain ⟨hb0, hsg, hcy⟩ := contP_yes (k := k) (g := g) (d := d) (c := c) (P := fdOf P) hz HV.out
      subst hb0
      have hi1 := sign_lt hsg
      have hfin := HI.out.fin.trans hcy
      have h3' : RSt cu r A S.n cn (i + 1) c 0 w3 := by
        have e : S.sign i (ByteArray.mk #[44]).data.toList = true := hsg
        rw [e] at h3; exact h3
      obtain ⟨g', rfl⟩ : ∃ g', g = g' + 1 := by
        cases g with
        | zero => exact absurd (by rw [hfin]; unfold pParts; rfl) (HNE.out 0)
        | succ g' => exact ⟨g', rfl⟩
      have hfu := HI.out.fuel
      have h20 := HI.out.most rfl
      have hcnt := HI.out.cnt
      have hl7 := HI.out.rows.len
      have C3 := HC0.out.on k3
      have HRE := Lib.hid (field_any (RDD.out g' (by omega)) C3 h3' hcnt HD.out hd5 fi p HAF.out HP0.out HPK.out ROW3 (by omega) (insN (fdOf P)) (by rw [insN_len, fdOf_len]; exact hl7) (any_fd P) (fun _ j e => HNE.out j (by
        rw [hfin, parts_field, e])))
      have HROW3 := Lib.hid ROW3
      have HK3 := Lib.hid K3
      have HFIN := Lib.hid hfin
      have HAP := Lib.hid (HI.out.apart rfl)
      have MI := Lib.hid HI.out.rd.cur.m
      have HLN := Lib.hid (show (insN (fdOf P)).length = n by rw [insN_len, fdOf_len]; exact hl7)
      clear h3 h3' k3 K3 ROW3 hfin hl7 C3 hcy p0 HC0 HI
      go_wp2_with fail
      refine HRE.out.mono ?_; rintro e w4 ⟨x, t, i4, c4, b4, rfl, hsx, hT4, k4, h4, hc4, hres⟩
      rw [badR_0] at hres
      unfold Nv.enc
      have hs4 := k4.size
      have ROW4 := HROW3.out.keep hs4 (fun b' hb hlt => k4.blk hlt (by omega))
      have K4 := HK3.out.trans k4
      have hown := ROW4.own
      obtain ⟨inf, hi1', hy0, hy1, hy2⟩ := info_parts nm_info
      have hMX : n + 1 ≤ maxLen := by unfold maxLen; omega
      have hwo : ∀ b, (Value.slice A7 n c7).ownBlock = some b → b < w3.heap.size := fun b e => (HROW3.out.own.lt b e).2
      have hAL : w.heap.size ≤ (w4.alloc (.cells #[.string x.s, .int .i64 x.k, .string x.p, .int .i64 x.m, .string x.d, .string x.n, .slice x.A5 x.n5 x.c5, .slice x.A6 x.n6 x.c6] 184)).heap.size := by
        have e1 : (w4.alloc (.cells #[.string x.s, .int .i64 x.k, .string x.p, .int .i64 x.m, .string x.d, .string x.n, .slice x.A5 x.n5 x.c5, .slice x.A6 x.n6 x.c6] 184)).heap.size = w4.heap.size + 1 := (by simp)
        omega
      have hNW : ∀ j u, ([.string x.s, .int .i64 x.k, .string x.p, .int .i64 x.m, .string x.d, .string x.n, .slice x.A5 x.n5 x.c5, .slice x.A6 x.n6 x.c6] : List Value)[j]? = some u → (w4.alloc (.cells #[.string x.s, .int .i64 x.k, .string x.p, .int .i64 x.m, .string x.d, .string x.n, .slice x.A5 x.n5 x.c5, .slice x.A6 x.n6 x.c6] 184)).cell? ((⟨w4.heap.size, 0, none⟩ : Addr).add j) = some u := fun q u hq => by
        rw [WideShapes.add_plain, Nat.zero_add, Lib.cell_of_heap (heap_alloc_new w4 _), ← hq, ← List.getElem?_toArray]
      have KEY : ∀ (gb cap : Nat) (w5 : World), w5.ownsRow w.heap.size 184 8 (.slice (some ⟨gb, 0, none⟩) (n + 1) cap) (n + 1) (rowN P ++ [.string x.s, .int .i64 x.k, .string x.p, .int .i64 x.m, .string x.d, .string x.n, .slice x.A5 x.n5 x.c5, .slice x.A6 x.n6 x.c6]) → (w4.alloc (.cells #[.string x.s, .int .i64 x.k, .string x.p, .int .i64 x.m, .string x.d, .string x.n, .slice x.A5 x.n5 x.c5, .slice x.A6 x.n6 x.c6] 184)).grownBy w5 (Value.slice A7 n c7).ownBlock →
          ((Value.slice A7 n c7).ownBlock = some gb ∨ gb = (w4.alloc (.cells #[.string x.s, .int .i64 x.k, .string x.p, .int .i64 x.m, .string x.d, .string x.n, .slice x.A5 x.n5 x.c5, .slice x.A6 x.n6 x.c6] 184)).heap.size) →
          CfI w cu r A S cn k z d (f' + 1) F (P ++ [(x, t)]) (n + 1) (.slice (some ⟨gb, 0, none⟩) (n + 1) cap) i4 c4 b4 g' w5 ∧ cuM cu S.n w5 < cuM cu S.n wo := by
        intro gb cap w5 hown5 hgrow hat
        obtain ⟨ROW5, K5, old5, oth5, hs5⟩ := NmR.moreK (x := (x, t)) ROW4 (by omega) hwo hsx hT4 hown5 hgrow hat K4 (Nat.le_refl _)
        have h5 : RSt cu r A S.n cn i4 c4 b4 w5 := h4.keep fun k hk hlt => oth5 k (fun vs fr e => by
          rcases hk _ _ _ e with q | q | q <;> exact absurd q (by decide)) hlt
        have hlim : b4 = 0 → n + 1 ≤ 20 ∧ i + 1 < i4 ∧ twice x.s (insN (fdOf P)) = false := fun hb => by
          subst hb
          have := field_ok hres.symm
          rw [HLN.out] at this
          obtain ⟨q1, q2, q3, q4, q5⟩ := this
          exact ⟨by omega, q4, by rw [q3]; exact q2⟩
        refine ⟨⟨K5, ROW5, h5, ?_, by omega, by omega, fun e => (hlim e).1, hc4, fun e => nodup_snoc HAP.out (hlim e).2.2⟩, ?_⟩
        · rw [HFIN.out, fdOf_snoc]; exact parts_cont hres.symm
        · rw [MI.out, h5.cur.m]
          simp only [if_true]
          split
          · rename_i e
            have := hlim e
            omega
          · omega
      have HKEY := Lib.hid KEY
      clear hT4 k4 h4 hres ROW4 K4 HRE HROW3 HK3 hwo KEY
      go_wp2_with (first | ((with_reducible refine wpList_append_lies _ ?_ (.tmp 18) (.tmp 24) 154 ?_ (w.heap.size) 184 inf _ 8 128 ?_ hi1' hy0 hy1 hy2 ?_ ?_ (.slice A7 n c7) (n) _ ?_ (hown.alloc _) ⟨w4.heap.size, 0, none⟩ 1 1 [.string x.s, .int .i64 x.k, .string x.p, .int .i64 x.m, .string x.d, .string x.n, .slice x.A5 x.n5 x.c5, .slice x.A6 x.n6 x.c6] ?_ ?_ ?_ ?_ ?_ ?_ ?_ ?_ _ rfl ?_); rfl; rfl; exact Tryz.underlying154; rfl; exact Nat.zero_lt_succ _; rfl; rfl; rfl; exact hNW; exact (fun u hu => by simp at hu; rcases hu with rfl | rfl | rfl | rfl | rfl | rfl | rfl | rfl <;> rfl); exact Nat.one_pos; exact hMX; omega; exact hAL; intro gb cap w5 hown5 hgrow hat hlt5; have KK := Lib.hid (HKEY.out gb cap w5 hown5 hgrow hat); clear hown5 hgrow hat hown hNW hAL hMX hi1' hy0 hy1 hy2))
      go_roundw
      case rel => exact ⟨P ++ [(x, t)], n + 1, i4, c4, b4, g', Lib.hid KK.out.1, by omega⟩
      case measure => exact KK.out.2

end Go.Proofs.YtbknmokamcjgpaaGreatDoor

/- The library's contract of slices.SortFunc, laid over this translation at the names with types. -/
namespace Go.Proofs
open Go.Shelf
def Tryz.sortNamed_ren : Go.Shelf.Ren := ⟨fun | 6 => 156 | 15 => 171 | 14 => 170 | 28 => 190 | 29 => 191 | 20 => 182 | 21 => 183 | 22 => 184 | 23 => 185 | 24 => 186 | 25 => 187 | 26 => 188 | 27 => 189 | 46 => 206 | 47 => 207 | 48 => 208 | 49 => 209 | 50 => 210 | 57 => 215 | n => n, fun | 22 => 154 | 24 => 184 | 25 => 188 | 3 => 3 | 39 => 197 | 0 => 0 | 53 => 215 | 55 => 200 | 4 => 4 | 46 => 208 | 45 => 207 | 50 => 212 | 5 => 5 | 9 => 9 | 66 => 227 | 70 => 192 | 76 => 237 | 77 => 112 | n => n, fun | n => n⟩
theorem Tryz.sortNamed : Go.Proofs.SlLaysF0.n6 Tryz.prog Tryz.sortNamed_ren := {
  mixed := by kernel_rfl
  f6 := ⟨Tryz.f156.name, by decide, Tryz.func156.trans (congrArg some (by kernel_rfl))⟩
  f14 := ⟨Tryz.f170.name, by decide, Tryz.func170.trans (congrArg some (by kernel_rfl))⟩
  f15 := Tryz.func171.trans (congrArg some (by kernel_rfl))
  f20 := ⟨Tryz.f182.name, by decide, Tryz.func182.trans (congrArg some (by kernel_rfl))⟩
  f21 := ⟨Tryz.f183.name, by decide, Tryz.func183.trans (congrArg some (by kernel_rfl))⟩
  f22 := ⟨Tryz.f184.name, by decide, Tryz.func184.trans (congrArg some (by kernel_rfl))⟩
  f23 := ⟨Tryz.f185.name, by decide, Tryz.func185.trans (congrArg some (by kernel_rfl))⟩
  f24 := ⟨Tryz.f186.name, by decide, Tryz.func186.trans (congrArg some (by kernel_rfl))⟩
  f25 := ⟨Tryz.f187.name, by decide, Tryz.func187.trans (congrArg some (by kernel_rfl))⟩
  f26 := ⟨Tryz.f188.name, by decide, Tryz.func188.trans (congrArg some (by kernel_rfl))⟩
  f27 := ⟨Tryz.f189.name, by decide, Tryz.func189.trans (congrArg some (by kernel_rfl))⟩
  f28 := Tryz.func190.trans (congrArg some (by kernel_rfl))
  f29 := Tryz.func191.trans (congrArg some (by kernel_rfl))
  f46 := ⟨Tryz.f206.name, by decide, Tryz.func206.trans (congrArg some (by kernel_rfl))⟩
  f47 := Tryz.func207.trans (congrArg some (by kernel_rfl))
  f48 := Tryz.func208.trans (congrArg some (by kernel_rfl))
  f49 := ⟨Tryz.f209.name, by decide, Tryz.func209.trans (congrArg some (by kernel_rfl))⟩
  f50 := ⟨Tryz.f210.name, by decide, Tryz.func210.trans (congrArg some (by kernel_rfl))⟩
  f57 := ⟨Tryz.f215.name, by decide, Tryz.func215.trans (congrArg some (by kernel_rfl))⟩
  t0 := Tryz.underlying0
  a0 := Tryz.isAgg0
  z0 := Tryz.sizeOf0
  v0 := Tryz.zeroValue0
  t3 := Tryz.underlying3
  a3 := Tryz.isAgg3
  z3 := Tryz.sizeOf3
  v3 := Tryz.zeroValue3
  t4 := Tryz.underlying4
  a4 := Tryz.isAgg4
  z4 := Tryz.sizeOf4
  v4 := Tryz.zeroValue4
  t5 := Tryz.underlying5
  a5 := Tryz.isAgg5
  z5 := Tryz.sizeOf5
  v5 := Tryz.zeroValue5
  t9 := Tryz.underlying9
  a9 := Tryz.isAgg9
  z9 := Tryz.sizeOf9
  v9 := Tryz.zeroValue9
  t22 := Tryz.underlying154
  a22 := Tryz.isAgg154
  z22 := Tryz.sizeOf154
  v22 := Tryz.zeroValue154
  t25 := Tryz.underlying188
  a25 := Tryz.isAgg188
  z25 := Tryz.sizeOf188
  v25 := Tryz.zeroValue188
  t39 := Tryz.underlying197
  a39 := Tryz.isAgg197
  z39 := Tryz.sizeOf197
  v39 := Tryz.zeroValue197
  t45 := Tryz.underlying207
  a45 := Tryz.isAgg207
  z45 := Tryz.sizeOf207
  v45 := Tryz.zeroValue207
  t46 := Tryz.underlying208
  a46 := Tryz.isAgg208
  z46 := Tryz.sizeOf208
  v46 := Tryz.zeroValue208
  t50 := Tryz.underlying212
  a50 := Tryz.isAgg212
  z50 := Tryz.sizeOf212
  v50 := Tryz.zeroValue212
  t53 := Tryz.underlying215
  a53 := Tryz.isAgg215
  z53 := Tryz.sizeOf215
  v53 := Tryz.zeroValue215
  t55 := Tryz.underlying200
  a55 := Tryz.isAgg200
  z55 := Tryz.sizeOf200
  v55 := Tryz.zeroValue200
  t66 := Tryz.underlying227
  a66 := Tryz.isAgg227
  z66 := Tryz.sizeOf227
  v66 := Tryz.zeroValue227
  t70 := Tryz.underlying192
  a70 := Tryz.isAgg192
  z70 := Tryz.sizeOf192
  v70 := Tryz.zeroValue192
  t76 := Tryz.underlying237
  a76 := Tryz.isAgg237
  z76 := Tryz.sizeOf237
  v76 := Tryz.zeroValue237
  t77 := Tryz.underlying112
  a77 := Tryz.isAgg112
  z77 := Tryz.sizeOf112
  v77 := Tryz.zeroValue112 }
end Go.Proofs

/- The code's sort of names with types. -/
namespace Go.Proofs.YtbknmokamcjgpaaGreatDoor
open Go.RowKit
open Go.Sort
open M

theorem cmp_less : ∀ a b : List UInt8, decide (Lib.compareBytes a b < 0) = Op.bytesLess a b
  | [], [] => rfl
  | [], _ :: _ => rfl
  | _ :: _, [] => rfl
  | a :: ar, b :: br => by
    have ih := cmp_less ar br
    unfold Lib.compareBytes Op.bytesLess
    by_cases h1 : a < b
    · simp [h1]
    · rw [if_neg h1]
      by_cases h2 : b < a
      · rw [if_pos h2]
        have hne : a ≠ b := fun e => by subst e; exact h1 h2
        simp [h1, hne]
      · rw [if_neg h2]
        have e : a = b := UInt8.le_antisymm (UInt8.not_lt.1 h2) (UInt8.not_lt.1 h1)
        subst e
        simpa using ih
def cmpN (x y : Nv) : Int := Lib.compareBytes x.s.data.toList y.s.data.toList
theorem ltN (x y : Nv) : ltOf cmpN x y = Op.bytesLess x.s.toList y.s.toList := by
  unfold ltOf cmpN
  rw [cmp_less, Lib.toList_data, Lib.toList_data]
theorem swoN : SWO (ltOf cmpN) where
  irrefl x := by rw [ltN]; exact bl_irrefl _
  trans x y z h1 h2 := by rw [ltN] at *; exact bl_trans _ _ _ h1 h2
  ntrans x y z h1 h2 := by rw [ltN] at *; exact bl_ntrans _ _ _ h1 h2

set_option maxHeartbeats 1000000 in
/-- The closure of ofFields. -/
theorem closN (x y : Nv) (W : World) : Calls Tryz.prog 157 #[.agg x.enc.toArray, .agg y.enc.toArray] W fun e w' => e = .returned (.int .i64 (cmpN x y)) ∧ ∃ q os', w' = grow (W.drewN q) os' := by
  have hcon := fun W' => Tryz.strings_Compare x.s y.s W'
  unfold cmpN
  generalize Lib.compareBytes x.s.data.toList y.s.data.toList = r at hcon ⊢
  unfold Nv.enc
  go_enter Tryz.func157, Tryz.ntmps157
  go_wp2_with fail
  refine (hcon _).mono ?_; rintro e w' ⟨rfl, rfl⟩
  go_wp2_with fail
  go_ret
  exact ⟨rfl, 0, _, by rw [alloc_eq_grow, alloc_eq_grow, grow_grow]; rfl⟩

theorem grown_sortedN {w : World} {g n : Nat} {os : Array Obj} (d : Array Nv) : w.grownBy (sortWorldK Nv.enc 8 w g 0 n d os) (some g) := by
  unfold sortWorldK putRowK
  refine ⟨rfl, rfl, rfl, by simp, fun k hk hne => ?_⟩
  rw [heap_grow_old _ _ (by simpa using hk)]
  have : g ≠ k := fun e => hne (by rw [e])
  simp [putRow, mapBlock, Sort.ahead, Array.getElem?_modify, this]

set_option maxHeartbeats 1000000 in
theorem sort_named {lo : Nat} {P : List Nt} {n : Nat} {v : Value} {w : World} (hR : NmR lo P n v w) (h1 : 1 ≤ n) (hz : n ≤ 1000000) :
    Calls Tryz.prog 156 #[v, .func (.func 157) #[] #[]] w fun e w' => e = .returned (.tuple #[]) ∧ ∃ g cap P', v = .slice (some ⟨g, 0, none⟩) n cap ∧ lo ≤ g ∧ g < w.heap.size ∧ w.grownBy w' (some g) ∧
      P'.Perm P ∧ (fdOf P').Pairwise leF ∧ ∀ k x, P'[k]? = some x → ∀ q u, x.1.enc[q]? = some u → w'.cell? ⟨g, 0 + k * 8 + q, none⟩ = some u := by
  have hl := hR.len
  rcases hR.own.2 with ⟨rfl, h0⟩ | ⟨g, cap, cur, rfl, hB, hg, hnc, hcm, hcs, htake⟩
  · omega
  obtain ⟨d, hd⟩ : ∃ d : Array Nv, d = (P.map (·.1)).toArray := ⟨_, rfl⟩
  have hds : d.size = n := by rw [hd]; simp [hl]
  have hgl := (Array.getElem?_eq_some_iff.1 hg).1
  have hH : HoldsK Nv.enc 8 w g 0 d := by
    intro j hj
    rw [size_flatK] at hj
    refine ⟨?_, Lib.frozen_of_heap hg _⟩
    rw [get_flatK _ _ _ _ hj, Lib.cell_of_heap hg, ← Array.getElem?_toList]
    have hi : j / 8 < P.length := by omega
    have hx : P[j / 8]? = some P[j / 8] := List.getElem?_eq_getElem hi
    have e1 := rowN_at P (j / 8) (j % 8) _ hx (by omega)
    rw [← htake, List.getElem?_take, show j / 8 * 8 + j % 8 = j by omega, if_pos (by omega)] at e1
    rw [Nat.zero_add, e1]
    have e2 : d[j / 8]! = P[j / 8].1 := by rw [hd]; simp [hi]
    rw [e2]
    have hq : j % 8 < (P[j / 8].1.enc).length := by rw [Nv.len]; omega
    rw [List.getElem?_eq_getElem hq]
    simp [hq]
  have eg : ∀ args w, (callFunc 157 args).run Tryz.prog w = .ok (.enter 157 args) w := enters_of Tryz.func157 (by kernel_rfl) rfl
  have hcon := AnyQ.slices_SortFunc Tryz.sortNamed 8 Tryz.isAgg184 Tryz.sizeOf184 Nv.enc Nv.len Nv.one cmpN swoN 157 #[] g 0 cap d w eg (fun _ _ _ _ x y => closN x y _) hH hgl (by omega)
  change Calls Tryz.prog 156 _ _ _ at hcon
  rw [hds] at hcon
  refine hcon.mono fun e w' ⟨he, d', m, os, hp, hs, hw⟩ => ⟨he, g, cap, ?_⟩
  obtain ⟨hp1, -, hp3⟩ := hp
  have hd's : d'.size = n := by omega
  have hperm : d'.toList.Perm (P.map (·.1)) := by
    have e1 : d'.extract 0 n = d' := by rw [← hd's]; exact Array.extract_size
    have e2 : d.extract 0 n = d := by rw [← hds]; exact Array.extract_size
    rw [e1, e2] at hp3
    rw [hd] at hp3
    simpa using hp3
  obtain ⟨P', hP', hm⟩ := perm_lift (fun x : Nt => x.1) hperm
  have hlen' : P'.length = n := by rw [hP'.length_eq]; exact hl
  have hat : ∀ k x, P'[k]? = some x → k < n ∧ d'[k]! = x.1 := fun k x hx => by
    have hk := (List.getElem?_eq_some_iff.1 hx).1
    refine ⟨by omega, ?_⟩
    have : d'.toList[k]? = some x.1 := by rw [← hm, List.getElem?_map, hx]; rfl
    rw [Array.getElem?_toList] at this
    rw [Array.getElem!_eq_getD, Array.getD_eq_getD_getElem?, this]; rfl
  have hH' := holdsK_sortWorldK_c Nv.enc 8 w g 0 d d' m os hH hgl (by omega)
  refine ⟨P', rfl, hB, hgl, by rw [hw]; exact grown_sortedN d', hP', ?_, fun k x hx q u hu => ?_⟩
  · refine List.pairwise_iff_getElem.2 fun i j hi hj hij => ?_
    have hi' : i < P'.length := by simpa [fdOf] using hi
    have hj' : j < P'.length := by simpa [fdOf] using hj
    have := hs i j (Nat.zero_le _) hij (by omega)
    rw [ltN, (hat j _ (List.getElem?_eq_getElem hj')).2, (hat i _ (List.getElem?_eq_getElem hi')).2] at this
    show Op.bytesLess _ _ = false
    simpa [fdOf] using this
  · obtain ⟨hk, he⟩ := hat k x hx
    have hq : q < 8 := by have := (List.getElem?_eq_some_iff.1 hu).1; rwa [x.1.len] at this
    rw [hw]
    have := (hH'.cell (i := k) (c := q) (by omega) hq).1
    rw [he] at this
    rw [this]
    obtain ⟨hq', e⟩ := List.getElem?_eq_some_iff.1 hu
    simp [hq', e]

end Go.Proofs.YtbknmokamcjgpaaGreatDoor
