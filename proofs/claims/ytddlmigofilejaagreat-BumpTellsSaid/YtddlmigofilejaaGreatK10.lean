/-
  Several texts in one.
-/
import Derived.Test.YtddlmigofilejaaGreatK09
set_option maxRecDepth 100000
set_option maxHeartbeats 8000000
namespace Go.Proofs.YtddlmigofilejaaGreat
open Go Go.RowKit
open Go.Sort
open M
section
variable {P : Program} {w : World}
end
theorem RowIn.src {α : Type} {R : Reads α} {w : World} {A : Option Addr} {l : List α} (hk : 0 < R.k) (h : RowIn R w A l) : ∃ C : List (List Value), C.length = l.length /\ (∀ y, y ∈ C -> y.length = R.k) /\ (∀ (i : Nat) (y : List Value) (x : α), C[i]? = some y -> l[i]? = some x -> R.E w y x) /\ (A = none -> l.length = 0) /\
    ∀ wx, Below w.heap.size w wx -> ∀ ad, A = some ad -> ∀ (j : Nat) (u : Value), C.flatten[j]? = some u -> wx.cell? (ad.add j) = some u := by
  cases l with
  | nil => exact ⟨[], rfl, fun y h => by simp at h, fun i y x h => by simp at h, fun _ => rfl, fun wx _ ad _ j u h => by simp at h⟩
  | cons x xs =>
    obtain ⟨g, o, l0, hA, hg, -, -⟩ := h 0 x rfl;subst hA;obtain ⟨C, h1, h2, h3, h4⟩ := h.lists hk
    exact ⟨C, h1, h2, h3, fun e => absurd e (by simp), fun wx hb ad e j u hu => by
      obtain rfl := Option.some.inj e;rw [WideShapes.add_plain];exact (hb.cell (p := ⟨g, o + j, none⟩) hg).trans (h4 j u hu)⟩
theorem if_one {w : World} {l : List Value} {x : If} (h : ifE w l x) : ∀ u ∈ l, u.oneCell' = true := by
  obtain ⟨At, ct, Av, cv, rfl, -⟩ := h;intro u hu;simp at hu;rcases hu with rfl | rfl | rfl | rfl | rfl <;> rfl
theorem all_one_cells {α : Type} {R : Reads α} {w : World} {C : List (List Value)} {l : List α} (hl : C.length = l.length) (hE : ∀ (i : Nat) (y : List Value) (x : α), C[i]? = some y -> l[i]? = some x -> R.E w y x) (h1 : ∀ (y : List Value) (x : α), R.E w y x -> ∀ u ∈ y, u.oneCell' = true) : ∀ u ∈ C.flatten, u.oneCell' = true := fun u hu => by
  obtain ⟨y, hy, hu⟩ := List.mem_flatten.1 hu;obtain ⟨i, hi⟩ := List.mem_iff_getElem?.1 hy;have hil := (List.getElem?_eq_some_iff.1 hi).1;rw [hl] at hil;exact h1 y _ (hE i y _ hi (List.getElem?_eq_getElem hil)) u hu
theorem own_ne {w : World} {base : Nat} {e : TypeId} {z : Nat} {v : Value} {n : Nat} {xs : List Value} {b : Nat} {cs : Array Value} {T : TypeId} {fr : Nat × Nat} (h : w.ownsRow base e z v n xs) (hX : w.heap[b]? = some (.cells cs T fr)) (hT : e ≠ T) (hb : v.ownBlock = some b) : False := by
  rcases h.2 with ⟨rfl, -⟩ | ⟨g, cap, cur, rfl, -, hg, -⟩
  · simp [Value.ownBlock] at hb
  · simp [Value.ownBlock] at hb
    subst hb;rw [hX] at hg;simp only [Option.some.injEq, Obj.cells.injEq] at hg;exact hT hg.2.1.symm
theorem own_block11 {w w' : World} {B : Nat} {e : TypeId} {z : Nat} {v : Value} {n : Nat} {xs : List Value} (h : w.ownsRow B e z v n xs) (hb : ∀ b, v.ownBlock = some b -> w'.heap[b]? = w.heap[b]?) : w'.ownsRow B e z v n xs := by
  refine ⟨h.1, ?_⟩;rcases h.2 with h | ⟨g, cap, cur, hv, hB, hg, rest⟩
  · exact .inl h
  · exact .inr ⟨g, cap, cur, hv, hB, (hb g (by rw [hv]; rfl)).trans hg, rest⟩
end Go.Proofs.YtddlmigofilejaaGreat
namespace Go.Proofs.YtddlmigofilejaaGreat
open Go Go.RowKit Go.Shelf
open Go.Sort
open M
theorem flatk_len {k : Nat} : ∀ {C : List (List Value)}, (∀ y, y ∈ C -> y.length = k) -> C.flatten.length = C.length * k
 | [], _ => by simp
 | a :: r, h => by
  rw [List.flatten_cons, List.length_append, h a List.mem_cons_self, flatk_len fun y hy => h y (List.mem_cons_of_mem _ hy), List.length_cons, Nat.succ_mul];omega
theorem run_append_src {P : Program} {w : World} (base : Nat) (t ty e : TypeId) (i : TypeInfo) (z : Value) (size bytes : Nat) (ht : P.underlying t = some (.slice e)) (hi : P.info? e = some i) (hz : i.zero = some z)
  (hsize : i.size = size) (hby : i.bytes = bytes) (hzs : z.cells.size = size) (hsz : 0 < size)
  (v : Value) (n : Nat) (xs : List Value) (hown : w.ownsRow base e size v n xs)
  (A : Option Addr) (m c : Nat) (news : List Value) (hA : A = none -> m = 0) (hl : news.length = m * size) (hnews : ∀ ad, A = some ad -> ∀ j u, news[j]? = some u -> w.cell? (ad.add j) = some u) (h1 : ∀ u ∈ news, u.oneCell' = true)
  (h63 : n + m <= maxLen) (hbytes : (n + m) * bytes <= 140737488355328) (hbase : base <= w.heap.size) :
  ∃ v' w', (Builtin.append_ #[t, t] ty #[v, .slice A m c]).run P w = .ok v' w' /\ w'.ownsRow base e size v' (n + m) (xs ++ news) /\ w.grownBy w' v.ownBlock := by
 cases A with
 | none =>
  have hm := hA rfl;subst hm;have hn : news = [] := List.length_eq_zero_iff.1 (by rw [hl]; simp);subst hn;exact ⟨v, w, run_append_empty base t ty e i size ht hi v n c xs hown, by rw [List.append_nil]; exact hown, ⟨rfl, rfl, rfl, Nat.le_refl _, fun _ _ _ => rfl⟩⟩
 | some ad =>
  obtain ⟨v', w', hr, h2, h3, -, -⟩ := run_append_own_at (P := P) w base t ty e i z size bytes ht hi hz hsize hby hzs hsz v n xs hown ad m c news hl (hnews ad rfl) h1 h63 hbytes hbase;exact ⟨v', w', hr, h2, h3⟩
theorem ifInfo12 : (Tryz.prog.info? 44).map (fun i => (i.zero, i.size, i.bytes)) = some (some (.agg #[.string ⟨#[]⟩, .int .i64 0, .string ⟨#[]⟩, .slice none 0 0, .slice none 0 0]), 5, 88) := by kernel_rfl
theorem nmInfo12 : (Tryz.prog.info? 52).map (fun i => (i.zero, i.size, i.bytes)) = some (some (.agg #[.string ⟨#[]⟩, .int .i64 0, .string ⟨#[]⟩, .int .i64 0, .string ⟨#[]⟩, .string ⟨#[]⟩, .slice none 0 0, .slice none 0 0]), 8, 128) := by kernel_rfl
theorem nm_one12 {w : World} {l : List Value} {x : Nm} (h : nmE w l x) : ∀ u ∈ l, u.oneCell' = true := by
 obtain ⟨-, l7, rfl, hT⟩ := h
 obtain ⟨Bn, cB, Bs, dB, rfl, -⟩ := hT.parts
 intro u hu
 simp at hu
 rcases hu with rfl | rfl | rfl | rfl | rfl | rfl | rfl | rfl <;> rfl
theorem growN_any (k : Nat) (w : World) (hk : k <= 100000) :
  Calls Tryz.prog 107 #[.slice none 0 0, .int .i64 k] w fun e w' => ∃ v, e = .returned v /\ w'.ownsRow w.heap.size 52 8 v 0 [] /\ Below w.heap.size w w' := by
 have e0 : ¬ ((k : Int) < 0) := by omega
 have wr : IntKind.i64.wrap (k : Int) = k := by rw [IntKind.wrap_i64]; omega
 rcases Nat.eq_zero_or_pos k with h0 | h0
 ·subst h0
  go_enter Tryz.func107, Tryz.ntmps107
  go_wp2_with fail
  go_ret;exact ⟨_, rfl, World.ownsRow_nil _ _ _ _, Below.refl _ _⟩
 ·obtain ⟨i0, hi, hz0, hz1, hz2⟩ := info_parts nmInfo12
  have hr := fun ty => Lib.run_append_nil_zeros (P := Tryz.prog) w 42 3 ty 52 i0 (.agg #[.string ⟨#[]⟩, .int .i64 0, .string ⟨#[]⟩, .int .i64 0, .string ⟨#[]⟩, .string ⟨#[]⟩, .slice none 0 0, .slice none 0 0]) .i64 .i64 Tryz.underlying42 Tryz.underlying3 hi hz0 k h0 (by rw [hz1]; decide) (by omega) (by rw [hz2]; omega)
  have hge := grownCap_ge w k 0 52;have hle := grownCap_le_maxLen w k 0 52 (by unfold maxLen; omega);obtain ⟨cap, hcap⟩ : ∃ cap, cap = grownCap w k 0 52 := ⟨_, rfl⟩;rw [<- hcap] at hge hle hr;obtain ⟨W, hW⟩ : ∃ W, W = w.drew.alloc (.cells (Builtin.zeroCells (Value.cells (.agg #[.string ⟨#[]⟩, .int .i64 0, .string ⟨#[]⟩, .int .i64 0, .string ⟨#[]⟩, .string ⟨#[]⟩, .slice none 0 0, .slice none 0 0])) k ++ Builtin.zeroCells (Value.cells (.agg #[.string ⟨#[]⟩, .int .i64 0, .string ⟨#[]⟩, .int .i64 0, .string ⟨#[]⟩, .string ⟨#[]⟩, .slice none 0 0, .slice none 0 0])) (cap - k)) 52) := ⟨_, rfl⟩;have HR : Hid (∀ ty, (Builtin.append_ #[42, 3] ty #[.slice none 0 0, .int .i64 k]).run Tryz.prog w = .ok (.slice (some ⟨w.heap.size, 0, none⟩) k cap) W) := hZ (fun ty => by rw [hW]; exact hr ty)
  have FIN : Hid (W.ownsRow w.heap.size 52 8 (.slice (some ⟨w.heap.size, 0, none⟩) 0 cap) 0 [] /\ Below w.heap.size w W) := hZ (by
   rw [hW];refine ⟨World.ownsRow_made (base := w.heap.size) (e := 52) (size := 8) w.drew _ cap (Nat.le_refl _) hle ?_, below_new (Below.drew (Below.refl _ _)) _⟩;have hs : (Value.cells (.agg #[.string ⟨#[]⟩, .int .i64 0, .string ⟨#[]⟩, .int .i64 0, .string ⟨#[]⟩, .string ⟨#[]⟩, .slice none 0 0, .slice none 0 0])).size = 8 := by rfl
   rw [Array.size_append, size_zeroCells, size_zeroCells, hs];omega)
  have hkp : (k : Int) > 0 := by omega
  have hkp2 : (0 : Int) < k := by omega
  clear hr hW hcap hi hz0 hz1 hz2;go_enter Tryz.func107, Tryz.ntmps107
  go_wp2_with (first | (at_builtin; go_loud (refine Lib.wpList_append_run _ rfl _ _ _ _ rfl _ _ rfl rfl _ _ (HR.out _) ?_)))
  go_ret;exact ⟨_, rfl, FIN.out.1, FIN.out.2⟩
theorem concatN_any (w : World) (gs : Nat) (An : Option Addr) (cA : Nat) (Bn : Option Addr) (cB : Nat) (la lb : List Nm) (hza0 : la.length <= 20000) (hzb0 : lb.length <= 20000)
  (c0 : w.cell? ⟨gs, 0, none⟩ = some (.slice An la.length cA)) (c1 : w.cell? ⟨gs, 1, none⟩ = some (.slice Bn lb.length cB)) (hNA : RowIn nmR w An la) (hNB : RowIn nmR w Bn lb) :
  Calls Tryz.prog 70 #[.slice (some ⟨gs, 0, none⟩) 2 2] w fun e w' => ∃ A c, e = .returned (.slice A (la ++ lb).length c) /\ RowIn nmR w' A (la ++ lb) /\ Below w.heap.size w w' := by
 obtain ⟨CA, lA, kA, eA, zA, sA⟩ := hNA.src (show 0 < nmR.k by decide)
 obtain ⟨CB, lB, kB, eB, zB, sB⟩ := hNB.src (show 0 < nmR.k by decide)
 obtain ⟨na, hna⟩ : ∃ n, n = la.length := ⟨_, rfl⟩
 obtain ⟨nb, hnb⟩ : ∃ n, n = lb.length := ⟨_, rfl⟩
 have HA : Hid (CA.flatten.length = na * 8 /\ (∀ u ∈ CA.flatten, u.oneCell' = true) /\ (An = none -> na = 0) /\ ∀ wx, Below w.heap.size w wx -> ∀ ad, An = some ad -> ∀ (j : Nat) (u : Value), CA.flatten[j]? = some u -> wx.cell? (ad.add j) = some u) := hZ ⟨by rw [flatk_len kA, lA, hna]; rfl, all_one_cells lA eA (fun y x => nm_one12), by rw [hna]; exact zA, sA⟩
 have HBB : Hid (CB.flatten.length = nb * 8 /\ (∀ u ∈ CB.flatten, u.oneCell' = true) /\ (Bn = none -> nb = 0) /\ ∀ wx, Below w.heap.size w wx -> ∀ ad, Bn = some ad -> ∀ (j : Nat) (u : Value), CB.flatten[j]? = some u -> wx.cell? (ad.add j) = some u) := hZ ⟨by rw [flatk_len kB, lB, hnb]; rfl, all_one_cells lB eB (fun y x => nm_one12), by rw [hnb]; exact zB, sB⟩
 have FINR : Hid (∀ (wx : World) (lo : Nat) (v : Value), Below w.heap.size w wx -> wx.ownsRow lo 52 8 v (na + nb) (CA.flatten ++ CB.flatten) -> ∃ A c, v = .slice A (la ++ lb).length c /\ RowIn nmR wx A (la ++ lb)) := hZ (fun wx lo v hb own => by
  obtain ⟨A, c, rfl⟩ := own_slice own;have hle : na + nb = (la ++ lb).length := by rw [List.length_append, hna, hnb]
  rw [hle, <- List.flatten_append] at own;rw [hle];refine ⟨A, c, rfl, RowIn.of_own (R := nmR) own (by rw [List.length_append, List.length_append, lA, lB]) (fun y hy => ?_) (fun i y x h1 h2 => nmR.keep _ _ _ _ ?_ hb)⟩
  ·rcases List.mem_append.1 hy with h | h
   ·exact kA y h
   ·exact kB y h
  ·rcases Nat.lt_or_ge i la.length with h | h
   ·rw [List.getElem?_append_left (by omega)] at h1 h2
    exact eA i y x h1 h2
   ·rw [List.getElem?_append_right (by omega), lA] at h1
    rw [List.getElem?_append_right (by omega)] at h2;exact eB _ y x h1 h2)
 have hza : na <= 20000 := by omega
 have hzb : nb <= 20000 := by omega
 rw [<- hna] at c0
 rw [<- hnb] at c1
 have wr0 : IntKind.i64.wrap ((0 : Int) + na) = na := by rw [IntKind.wrap_i64]; omega
 have wr1 : IntKind.i64.wrap ((na : Int) + nb) = ((na + nb : Nat) : Int) := by rw [IntKind.wrap_i64]; omega
 have wr2 : IntKind.i64.wrap ((na : Int)) = na := by rw [IntKind.wrap_i64]; omega
 have hgs : gs < w.heap.size := World.block_lt_of_cell? _ _ c0
 have n0 : ¬ ((na : Int) < 0) := by omega
 have n1 : ¬ (((na + nb : Nat) : Int) < 0) := by omega
 have n2 : ¬ ((na : Int) + (nb : Int) < 0) := by omega
 have C01 := hZ (And.intro c0 c1)
 clear hNA hNB hna hnb hza0 hzb0 lA kA eA zA sA lB kB eB zB sB
 go_enter Tryz.func70, Tryz.ntmps70
 go_wp2_with fail
 go_loopw [3, 11] (fun s3 s11 wr => wr = w /\ ((s11 = .int .i64 0 /\ s3 = .int .i64 0) \/ (s11 = .int .i64 1 /\ s3 = .int .i64 na) \/ (s11 = .int .i64 2 /\ s3 = .int .i64 ((na + nb : Nat) : Int)))) (fun _ s11 _ => 2 - (intOf s11).toNat)
 case atStart => exact ⟨rfl, .inl ⟨rfl, rfl⟩⟩
 case round =>
  obtain ⟨rfl, h⟩ := hrel;rcases h with ⟨rfl, rfl⟩ | ⟨rfl, rfl⟩ | ⟨rfl, rfl⟩
  ·go_wp2_with fail
   go_roundw
   case rel => exact ⟨by trivial, .inr (.inl ⟨by go_num, by go_num⟩)⟩
   case measure => simp [intOf]
  ·go_wp2_with fail
   go_roundw
   case rel => exact ⟨by trivial, .inr (.inr ⟨by go_num, by go_num⟩)⟩
   case measure => simp [intOf]
  ·have CG := hZ (growN_any (na + nb) wr (by omega))
   clear c0 c1;go_wp2_with fail
   refine CG.out.mono ?_; rintro e w2 ⟨v, rfl, hO, hB⟩
   have HO := hZ hO;have HB := hZ hB;clear CG hO hB;obtain ⟨wz, rfl⟩ : ∃ wz : World, wz = wr := ⟨_, rfl⟩;go_wp2_with fail
   go_loopw [6, 27] (fun s6 s27 wr => ∃ (v6 : Value) (n6 : Nat) (xs : List Value), v6 = s6 /\ ((s27 = .int .i64 0 /\ n6 = 0 /\ [] = xs) \/ (s27 = .int .i64 1 /\ n6 = 0 + na /\ [] ++ CA.flatten = xs) \/ (s27 = .int .i64 2 /\ n6 = na + nb /\ CA.flatten ++ CB.flatten = xs)) /\ Hid (wr.ownsRow wz.heap.size 52 8 v6 n6 xs) /\ Hid (Below wz.heap.size wz wr)) (fun _ s27 _ => 2 - (intOf s27).toNat)
   case atStart => exact ⟨_, 0, [], rfl, .inl ⟨rfl, rfl, rfl⟩, HO, HB⟩
   case round =>
    obtain ⟨v0, n6, xs, rfl, h, HO2, HB2⟩ := hrel;obtain ⟨wo, rfl⟩ : ∃ wo : World, wo = wr := ⟨_, rfl⟩;obtain ⟨i0, hi, hz0, hz1, hz2⟩ := info_parts nmInfo12;have hgo : wz.heap.size <= wo.heap.size := HB2.out.size;rcases h with ⟨rfl, rfl, rfl⟩ | ⟨rfl, rfl, rfl⟩ | ⟨rfl, rfl, rfl⟩
    ·have d0 : wo.cell? ⟨gs, 0, none⟩ = some (.slice An na cA) := (HB2.out.cell (p := ⟨gs, 0, none⟩) hgs).trans C01.out.1
     obtain ⟨v', w3, hr, hO3, hg3⟩ := run_append_src (P := Tryz.prog) (w := wo) wz.heap.size 42 42 52 i0 (.agg #[.string ⟨#[]⟩, .int .i64 0, .string ⟨#[]⟩, .int .i64 0, .string ⟨#[]⟩, .string ⟨#[]⟩, .slice none 0 0, .slice none 0 0]) 8 128 Tryz.underlying42 hi hz0 hz1 hz2 (by rfl) (by decide) v0 (0) [] HO2.out An na cA CA.flatten (HA.out.2.2.1) (HA.out.1) (HA.out.2.2.2 wo HB2.out) (HA.out.2.1) (by unfold maxLen; omega) (by omega) hgo;have HR := hZ hr;have INV : Hid (w3.ownsRow wz.heap.size 52 8 v' (0 + na) ([] ++ CA.flatten)) := hZ hO3;have INB : Hid (Below wz.heap.size wz w3) := hZ (below_grown HB2.out hgo HO2.out hg3);clear hr hO3 hg3 hi hz0 hz1 hz2;go_wp2_with (first | (at_builtin; go_loud (refine Lib.wpList_append_run _ rfl _ _ _ _ rfl _ _ rfl rfl _ _ HR.out ?_)))
     go_roundw
     case rel => exact ⟨v', 0 + na, [] ++ CA.flatten, rfl, .inr (.inl ⟨by go_num, rfl, rfl⟩), INV, INB⟩
     case measure => simp [intOf]
    ·have d0 : wo.cell? ⟨gs, 1, none⟩ = some (.slice Bn nb cB) := (HB2.out.cell (p := ⟨gs, 1, none⟩) hgs).trans C01.out.2
     obtain ⟨v', w3, hr, hO3, hg3⟩ := run_append_src (P := Tryz.prog) (w := wo) wz.heap.size 42 42 52 i0 (.agg #[.string ⟨#[]⟩, .int .i64 0, .string ⟨#[]⟩, .int .i64 0, .string ⟨#[]⟩, .string ⟨#[]⟩, .slice none 0 0, .slice none 0 0]) 8 128 Tryz.underlying42 hi hz0 hz1 hz2 (by rfl) (by decide) v0 (0 + na) ([] ++ CA.flatten) HO2.out Bn nb cB CB.flatten (HBB.out.2.2.1) (HBB.out.1) (HBB.out.2.2.2 wo HB2.out) (HBB.out.2.1) (by unfold maxLen; omega) (by omega) hgo;have HR := hZ hr;have INV : Hid (w3.ownsRow wz.heap.size 52 8 v' (0 + na + nb) (([] ++ CA.flatten) ++ CB.flatten)) := hZ hO3;have INB : Hid (Below wz.heap.size wz w3) := hZ (below_grown HB2.out hgo HO2.out hg3);clear hr hO3 hg3 hi hz0 hz1 hz2;go_wp2_with (first | (at_builtin; go_loud (refine Lib.wpList_append_run _ rfl _ _ _ _ rfl _ _ rfl rfl _ _ HR.out ?_)))
     go_roundw
     case rel => exact ⟨v', na + nb, CA.flatten ++ CB.flatten, rfl, .inr (.inr ⟨by go_num, rfl, rfl⟩), hZ (by have := INV.out; rwa [Nat.zero_add, List.nil_append] at this), INB⟩
     case measure => simp [intOf]
    ·clear hi hz0 hz1 hz2
     go_wp2_with fail
     go_ret;obtain ⟨A, c, rfl, hRR⟩ := FINR.out _ _ _ HB2.out HO2.out;exact ⟨A, c, rfl, hRR, HB2.out⟩
theorem growI_any (k : Nat) (w : World) (hk : k <= 100000) :
  Calls Tryz.prog 66 #[.slice none 0 0, .int .i64 k] w fun e w' => ∃ v, e = .returned v /\ w'.ownsRow w.heap.size 44 5 v 0 [] /\ Below w.heap.size w w' := by
 have e0 : ¬ ((k : Int) < 0) := by omega
 have wr : IntKind.i64.wrap (k : Int) = k := by rw [IntKind.wrap_i64]; omega
 rcases Nat.eq_zero_or_pos k with h0 | h0
 ·subst h0
  go_enter Tryz.func66, Tryz.ntmps66
  go_wp2_with fail
  go_ret;exact ⟨_, rfl, World.ownsRow_nil _ _ _ _, Below.refl _ _⟩
 ·obtain ⟨i0, hi, hz0, hz1, hz2⟩ := info_parts ifInfo12
  have hr := fun ty => Lib.run_append_nil_zeros (P := Tryz.prog) w 22 3 ty 44 i0 (.agg #[.string ⟨#[]⟩, .int .i64 0, .string ⟨#[]⟩, .slice none 0 0, .slice none 0 0]) .i64 .i64 Tryz.underlying22 Tryz.underlying3 hi hz0 k h0 (by rw [hz1]; decide) (by omega) (by rw [hz2]; omega)
  have hge := grownCap_ge w k 0 44;have hle := grownCap_le_maxLen w k 0 44 (by unfold maxLen; omega);obtain ⟨cap, hcap⟩ : ∃ cap, cap = grownCap w k 0 44 := ⟨_, rfl⟩;rw [<- hcap] at hge hle hr;obtain ⟨W, hW⟩ : ∃ W, W = w.drew.alloc (.cells (Builtin.zeroCells (Value.cells (.agg #[.string ⟨#[]⟩, .int .i64 0, .string ⟨#[]⟩, .slice none 0 0, .slice none 0 0])) k ++ Builtin.zeroCells (Value.cells (.agg #[.string ⟨#[]⟩, .int .i64 0, .string ⟨#[]⟩, .slice none 0 0, .slice none 0 0])) (cap - k)) 44) := ⟨_, rfl⟩;have HR : Hid (∀ ty, (Builtin.append_ #[22, 3] ty #[.slice none 0 0, .int .i64 k]).run Tryz.prog w = .ok (.slice (some ⟨w.heap.size, 0, none⟩) k cap) W) := hZ (fun ty => by rw [hW]; exact hr ty)
  have FIN : Hid (W.ownsRow w.heap.size 44 5 (.slice (some ⟨w.heap.size, 0, none⟩) 0 cap) 0 [] /\ Below w.heap.size w W) := hZ (by
   rw [hW];refine ⟨World.ownsRow_made (base := w.heap.size) (e := 44) (size := 5) w.drew _ cap (Nat.le_refl _) hle ?_, below_new (Below.drew (Below.refl _ _)) _⟩;have hs : (Value.cells (.agg #[.string ⟨#[]⟩, .int .i64 0, .string ⟨#[]⟩, .slice none 0 0, .slice none 0 0])).size = 5 := by rfl
   rw [Array.size_append, size_zeroCells, size_zeroCells, hs];omega)
  have hkp : (k : Int) > 0 := by omega
  have hkp2 : (0 : Int) < k := by omega
  clear hr hW hcap hi hz0 hz1 hz2;go_enter Tryz.func66, Tryz.ntmps66
  go_wp2_with (first | (at_builtin; go_loud (refine Lib.wpList_append_run _ rfl _ _ _ _ rfl _ _ rfl rfl _ _ (HR.out _) ?_)))
  go_ret;exact ⟨_, rfl, FIN.out.1, FIN.out.2⟩
theorem concatI_any (w : World) (gs : Nat) (An : Option Addr) (cA : Nat) (Bn : Option Addr) (cB : Nat) (la lb : List If) (hza0 : la.length <= 20000) (hzb0 : lb.length <= 20000)
  (c0 : w.cell? ⟨gs, 0, none⟩ = some (.slice An la.length cA)) (c1 : w.cell? ⟨gs, 1, none⟩ = some (.slice Bn lb.length cB)) (hNA : RowIn ifR w An la) (hNB : RowIn ifR w Bn lb) :
  Calls Tryz.prog 35 #[.slice (some ⟨gs, 0, none⟩) 2 2] w fun e w' => ∃ A c, e = .returned (.slice A (la ++ lb).length c) /\ RowIn ifR w' A (la ++ lb) /\ Below w.heap.size w w' := by
 obtain ⟨CA, lA, kA, eA, zA, sA⟩ := hNA.src (show 0 < ifR.k by decide)
 obtain ⟨CB, lB, kB, eB, zB, sB⟩ := hNB.src (show 0 < ifR.k by decide)
 obtain ⟨na, hna⟩ : ∃ n, n = la.length := ⟨_, rfl⟩
 obtain ⟨nb, hnb⟩ : ∃ n, n = lb.length := ⟨_, rfl⟩
 have HA : Hid (CA.flatten.length = na * 5 /\ (∀ u ∈ CA.flatten, u.oneCell' = true) /\ (An = none -> na = 0) /\ ∀ wx, Below w.heap.size w wx -> ∀ ad, An = some ad -> ∀ (j : Nat) (u : Value), CA.flatten[j]? = some u -> wx.cell? (ad.add j) = some u) := hZ ⟨by rw [flatk_len kA, lA, hna]; rfl, all_one_cells lA eA (fun y x => if_one), by rw [hna]; exact zA, sA⟩
 have HBB : Hid (CB.flatten.length = nb * 5 /\ (∀ u ∈ CB.flatten, u.oneCell' = true) /\ (Bn = none -> nb = 0) /\ ∀ wx, Below w.heap.size w wx -> ∀ ad, Bn = some ad -> ∀ (j : Nat) (u : Value), CB.flatten[j]? = some u -> wx.cell? (ad.add j) = some u) := hZ ⟨by rw [flatk_len kB, lB, hnb]; rfl, all_one_cells lB eB (fun y x => if_one), by rw [hnb]; exact zB, sB⟩
 have FINR : Hid (∀ (wx : World) (lo : Nat) (v : Value), Below w.heap.size w wx -> wx.ownsRow lo 44 5 v (na + nb) (CA.flatten ++ CB.flatten) -> ∃ A c, v = .slice A (la ++ lb).length c /\ RowIn ifR wx A (la ++ lb)) := hZ (fun wx lo v hb own => by
  obtain ⟨A, c, rfl⟩ := own_slice own;have hle : na + nb = (la ++ lb).length := by rw [List.length_append, hna, hnb]
  rw [hle, <- List.flatten_append] at own;rw [hle];refine ⟨A, c, rfl, RowIn.of_own (R := ifR) own (by rw [List.length_append, List.length_append, lA, lB]) (fun y hy => ?_) (fun i y x h1 h2 => ifR.keep _ _ _ _ ?_ hb)⟩
  ·rcases List.mem_append.1 hy with h | h
   ·exact kA y h
   ·exact kB y h
  ·rcases Nat.lt_or_ge i la.length with h | h
   ·rw [List.getElem?_append_left (by omega)] at h1 h2
    exact eA i y x h1 h2
   ·rw [List.getElem?_append_right (by omega), lA] at h1
    rw [List.getElem?_append_right (by omega)] at h2;exact eB _ y x h1 h2)
 have hza : na <= 20000 := by omega
 have hzb : nb <= 20000 := by omega
 rw [<- hna] at c0
 rw [<- hnb] at c1
 have wr0 : IntKind.i64.wrap ((0 : Int) + na) = na := by rw [IntKind.wrap_i64]; omega
 have wr1 : IntKind.i64.wrap ((na : Int) + nb) = ((na + nb : Nat) : Int) := by rw [IntKind.wrap_i64]; omega
 have wr2 : IntKind.i64.wrap ((na : Int)) = na := by rw [IntKind.wrap_i64]; omega
 have hgs : gs < w.heap.size := World.block_lt_of_cell? _ _ c0
 have n0 : ¬ ((na : Int) < 0) := by omega
 have n1 : ¬ (((na + nb : Nat) : Int) < 0) := by omega
 have n2 : ¬ ((na : Int) + (nb : Int) < 0) := by omega
 have C01 := hZ (And.intro c0 c1)
 clear hNA hNB hna hnb hza0 hzb0 lA kA eA zA sA lB kB eB zB sB
 go_enter Tryz.func35, Tryz.ntmps35
 go_wp2_with fail
 go_loopw [3, 11] (fun s3 s11 wr => wr = w /\ ((s11 = .int .i64 0 /\ s3 = .int .i64 0) \/ (s11 = .int .i64 1 /\ s3 = .int .i64 na) \/ (s11 = .int .i64 2 /\ s3 = .int .i64 ((na + nb : Nat) : Int)))) (fun _ s11 _ => 2 - (intOf s11).toNat)
 case atStart => exact ⟨rfl, .inl ⟨rfl, rfl⟩⟩
 case round =>
  obtain ⟨rfl, h⟩ := hrel;rcases h with ⟨rfl, rfl⟩ | ⟨rfl, rfl⟩ | ⟨rfl, rfl⟩
  ·go_wp2_with fail
   go_roundw
   case rel => exact ⟨by trivial, .inr (.inl ⟨by go_num, by go_num⟩)⟩
   case measure => simp [intOf]
  ·go_wp2_with fail
   go_roundw
   case rel => exact ⟨by trivial, .inr (.inr ⟨by go_num, by go_num⟩)⟩
   case measure => simp [intOf]
  ·have CG := hZ (growI_any (na + nb) wr (by omega))
   clear c0 c1;go_wp2_with fail
   refine CG.out.mono ?_; rintro e w2 ⟨v, rfl, hO, hB⟩
   have HO := hZ hO;have HB := hZ hB;clear CG hO hB;obtain ⟨wz, rfl⟩ : ∃ wz : World, wz = wr := ⟨_, rfl⟩;go_wp2_with fail
   go_loopw [6, 27] (fun s6 s27 wr => ∃ (v6 : Value) (n6 : Nat) (xs : List Value), v6 = s6 /\ ((s27 = .int .i64 0 /\ n6 = 0 /\ [] = xs) \/ (s27 = .int .i64 1 /\ n6 = 0 + na /\ [] ++ CA.flatten = xs) \/ (s27 = .int .i64 2 /\ n6 = na + nb /\ CA.flatten ++ CB.flatten = xs)) /\ Hid (wr.ownsRow wz.heap.size 44 5 v6 n6 xs) /\ Hid (Below wz.heap.size wz wr)) (fun _ s27 _ => 2 - (intOf s27).toNat)
   case atStart => exact ⟨_, 0, [], rfl, .inl ⟨rfl, rfl, rfl⟩, HO, HB⟩
   case round =>
    obtain ⟨v0, n6, xs, rfl, h, HO2, HB2⟩ := hrel;obtain ⟨wo, rfl⟩ : ∃ wo : World, wo = wr := ⟨_, rfl⟩;obtain ⟨i0, hi, hz0, hz1, hz2⟩ := info_parts ifInfo12;have hgo : wz.heap.size <= wo.heap.size := HB2.out.size;rcases h with ⟨rfl, rfl, rfl⟩ | ⟨rfl, rfl, rfl⟩ | ⟨rfl, rfl, rfl⟩
    ·have d0 : wo.cell? ⟨gs, 0, none⟩ = some (.slice An na cA) := (HB2.out.cell (p := ⟨gs, 0, none⟩) hgs).trans C01.out.1
     obtain ⟨v', w3, hr, hO3, hg3⟩ := run_append_src (P := Tryz.prog) (w := wo) wz.heap.size 22 22 44 i0 (.agg #[.string ⟨#[]⟩, .int .i64 0, .string ⟨#[]⟩, .slice none 0 0, .slice none 0 0]) 5 88 Tryz.underlying22 hi hz0 hz1 hz2 (by rfl) (by decide) v0 (0) [] HO2.out An na cA CA.flatten (HA.out.2.2.1) (HA.out.1) (HA.out.2.2.2 wo HB2.out) (HA.out.2.1) (by unfold maxLen; omega) (by omega) hgo;have HR := hZ hr;have INV : Hid (w3.ownsRow wz.heap.size 44 5 v' (0 + na) ([] ++ CA.flatten)) := hZ hO3;have INB : Hid (Below wz.heap.size wz w3) := hZ (below_grown HB2.out hgo HO2.out hg3);clear hr hO3 hg3 hi hz0 hz1 hz2;go_wp2_with (first | (at_builtin; go_loud (refine Lib.wpList_append_run _ rfl _ _ _ _ rfl _ _ rfl rfl _ _ HR.out ?_)))
     go_roundw
     case rel => exact ⟨v', 0 + na, [] ++ CA.flatten, rfl, .inr (.inl ⟨by go_num, rfl, rfl⟩), INV, INB⟩
     case measure => simp [intOf]
    ·have d0 : wo.cell? ⟨gs, 1, none⟩ = some (.slice Bn nb cB) := (HB2.out.cell (p := ⟨gs, 1, none⟩) hgs).trans C01.out.2
     obtain ⟨v', w3, hr, hO3, hg3⟩ := run_append_src (P := Tryz.prog) (w := wo) wz.heap.size 22 22 44 i0 (.agg #[.string ⟨#[]⟩, .int .i64 0, .string ⟨#[]⟩, .slice none 0 0, .slice none 0 0]) 5 88 Tryz.underlying22 hi hz0 hz1 hz2 (by rfl) (by decide) v0 (0 + na) ([] ++ CA.flatten) HO2.out Bn nb cB CB.flatten (HBB.out.2.2.1) (HBB.out.1) (HBB.out.2.2.2 wo HB2.out) (HBB.out.2.1) (by unfold maxLen; omega) (by omega) hgo;have HR := hZ hr;have INV : Hid (w3.ownsRow wz.heap.size 44 5 v' (0 + na + nb) (([] ++ CA.flatten) ++ CB.flatten)) := hZ hO3;have INB : Hid (Below wz.heap.size wz w3) := hZ (below_grown HB2.out hgo HO2.out hg3);clear hr hO3 hg3 hi hz0 hz1 hz2;go_wp2_with (first | (at_builtin; go_loud (refine Lib.wpList_append_run _ rfl _ _ _ _ rfl _ _ rfl rfl _ _ HR.out ?_)))
     go_roundw
     case rel => exact ⟨v', na + nb, CA.flatten ++ CB.flatten, rfl, .inr (.inr ⟨by go_num, rfl, rfl⟩), hZ (by have := INV.out; rwa [Nat.zero_add, List.nil_append] at this), INB⟩
     case measure => simp [intOf]
    ·clear hi hz0 hz1 hz2
     go_wp2_with fail
     go_ret;obtain ⟨A, c, rfl, hRR⟩ := FINR.out _ _ _ HB2.out HO2.out;exact ⟨A, c, rfl, hRR, HB2.out⟩
def HoldsU (w : World) (lo hi : Nat) (A : Option Addr) (ss : List (List UInt8)) : Prop := ss = [] \/ ∃ g, A = some ⟨g, 0, none⟩ /\ lo <= g /\ g < hi /\ g < w.heap.size /\ Holds encStr w g 0 ss.toArray
theorem OwnU.holds {w : World} {lo : Nat} {A : Option Addr} {c : Nat} {l : List ByteArray} (h : OwnU w lo (.slice A l.length c) l) : l.length <= c /\ HoldsU w lo w.heap.size A (l.map (·.data.toList)) := by
  rcases h.2 with ⟨e, h0⟩ | ⟨g, cap, cur, hv, hB, hg, hnc, hcm, hcs, htake⟩
  · have hl0 : l = [] := List.length_eq_zero_iff.1 (by simpa using h0)
    subst hl0;exact ⟨by simp, .inl rfl⟩
  · cases hv
    refine ⟨hnc, .inr ⟨g, rfl, hB, (Array.getElem?_eq_some_iff.1 hg).1, (Array.getElem?_eq_some_iff.1 hg).1, fun j hj => ⟨?_, Lib.frozen_of_heap hg _⟩⟩⟩;simp at hj;rw [cZ hg, <- Array.getElem?_toList];have e : (cur.toList.take (l.length * 1))[0 + j]? = some (.string l[j]) := by rw [htake]; simp [hj]
    rw [List.getElem?_take] at e;split at e
    · rw [e, getElem!_pos _ _ (by simpa using hj)]; simp [encStr]
    · cases e
theorem put_low {enc : List UInt8 -> Value} {w : World} {g n : Nat} {d : Array (List UInt8)} {os : Array Obj} {m : Nat} (h1 : m <= g) (h2 : m <= w.heap.size) : Below m w (grow (putRow enc (Sort.ahead w n) g 0 d) os) := by
  refine ⟨rfl, rfl, rfl, by simp [grow, ahead], fun k hk => ?_⟩;have hk2 : k < (putRow enc (Sort.ahead w n) g 0 d).heap.size := by simp [ahead]; omega
  show (grow (putRow enc (Sort.ahead w n) g 0 d) os).heap[k]? = _
  simp only [grow];rw [Array.getElem?_append_left hk2];simp only [putRow, mapBlock, ahead, Array.getElem?_modify];rw [if_neg (by omega)];rfl
theorem sortU_any (A : Option Addr) (c lo : Nat) (l : List ByteArray) (w : World) (h : OwnU w lo (.slice A l.length c) l) (hl : l.length <= 1000000) :
    Calls Tryz.prog 36 #[.slice A l.length c] w fun e w' => e = .returned (.tuple #[]) /\ HoldsU w' lo w'.heap.size A (ordU l) /\ ∀ m, m <= lo -> m <= w.heap.size -> Below m w w' := by
  rcases h.holds.2 with e | ⟨g, rfl, hlo, -, hlt, hH⟩
  · have hl0 : l = [] := by simpa using e
    subst hl0;refine (Tryz.slices_Sort_string_none A c w).mono ?_;rintro e w' ⟨rfl, rfl⟩;exact ⟨rfl, .inl (by simp [ordU]), fun n _ _ => Below.refl _ _⟩
  · have C := Tryz.slices_Sort_string g 0 c (l.map (·.data.toList)) w hH hlt (by simp; omega)
    rw [List.length_map] at C;refine C.mono ?_;rintro e w' ⟨rfl, n, os, rfl⟩;have hsz : (ordU l).toArray.size = (l.map fun x : ByteArray => x.data.toList).toArray.size := by simp [ordU_len]
    have hH2 : Holds encStr (putRow encStr (Sort.ahead w n) g 0 (ordU l).toArray) g 0 (ordU l).toArray := holds_putRow encStr (Sort.ahead w n) g 0 _ _ (holds_ahead encStr w n g 0 _ hH) hsz;have hk2 : g < (putRow encStr (Sort.ahead w n) g 0 (ordU l).toArray).heap.size := by simpa [ahead] using hlt
    exact ⟨rfl, .inr ⟨g, rfl, hlo, by simp [grow, ahead]; omega, by simp [grow, ahead]; omega, holds_grow encStr _ os g 0 _ hk2 hH2⟩, fun m h1 h2 => put_low (by omega) h2⟩
theorem compU_any (A : Option Addr) (c lo hi : Nat) (l : List ByteArray) (w : World) (h : HoldsU w lo hi A (ordU l)) (hc : l.length <= c) (hl : l.length <= 1000000) (hs : ∀ s ∈ l, s.size <= 9223372036854775807) :
    Calls Tryz.prog 37 #[.slice A l.length c] w fun e w' => e = .returned (.slice A (uniN l).length c) /\ NamesAt (strike (fun k => k < lo \/ hi <= k) w') A (uniN l) /\ (∀ k, hi <= k -> k < w.heap.size -> w'.heap[k]? = w.heap[k]?) /\ ∀ m, m <= lo -> m <= w.heap.size -> Below m w w' := by
  rcases h with e | ⟨g, rfl, hlo, hhi, hlt, hH⟩
  · have hl0 : l.length = 0 := by rw [<- ordU_len, e]; rfl
    have hl1 : l = [] := List.length_eq_zero_iff.1 hl0;subst hl1;refine (Tryz.slices_Compact_string_empty A c w).mono ?_;rintro e w' ⟨rfl, rfl⟩
    have e0 : uniN [] = [] := by
      cases hu : uniN [] with
      | nil => rfl
      | cons a r => exact absurd ((uniN_mem [] a).1 (by rw [hu]; exact List.mem_cons_self)) (by simp)
    rw [e0];exact ⟨rfl, fun i s h => by simp at h, fun _ _ _ => rfl, fun n _ _ => Below.refl _ _⟩
  · have C := Tryz.slices_Compact_string g 0 c (ordU l) w hH (by rw [ordU_len]; omega) (by rw [ordU_len]; exact hc)
    rw [ordU_len] at C;refine C.mono ?_;rintro e w' ⟨rfl, q, rfl⟩;have hle := uniS_le l
    have hsz : (Lib.compact (ordU l) ++ List.replicate (l.length - (Lib.compact (ordU l)).length) []).toArray.size = (ordU l).toArray.size := by
      have : (Lib.compact (ordU l)).length <= l.length := hle
      simp [ordU_len];omega
    refine ⟨by rw [uniN_len]; rfl, fun i s hi' => ?_, fun k hk1 hk2 => ?_, fun m h1 h2 => ?_⟩
    · have hmem := (uniN_mem l s).1 (List.mem_of_getElem? hi')
      have hil := (List.getElem?_eq_some_iff.1 hi').1;rw [uniN_len] at hil;have hx : (uniS l)[i]? = some (uniS l)[i] := List.getElem?_eq_getElem hil
      have hsx : s = ⟨(uniS l)[i].toArray⟩ := by
        unfold uniN at hi'
        rw [List.getElem?_map, hx] at hi';simpa using hi'.symm
      refine ⟨g, 0, rfl, by rw [strike_size]; simpa [ahead] using hlt, strike_cell.2 ⟨by rintro (e | e) <;> omega, ?_⟩, hs s hmem⟩
      have hi2 : i < (Lib.compact (ordU l) ++ List.replicate (l.length - (Lib.compact (ordU l)).length) []).toArray.size := by
        have : i < (Lib.compact (ordU l)).length := hil
        simp;omega
      have g1 : ∀ (X : Array (List UInt8)) (h : i < X.size), X[i]! = X[i]'h := fun X h => getElem!_pos X i h
      rw [cell?_putRow encStr (Sort.ahead w q) g 0 (ordU l).toArray _ (holds_ahead encStr w q g 0 _ hH) hsz i hi2, g1 _ hi2, hsx];have hil' : i < (Lib.compact (ordU l)).length := hil
      have : (Lib.compact (ordU l) ++ List.replicate (l.length - (Lib.compact (ordU l)).length) []).toArray[i]'hi2 = (Lib.compact (ordU l))[i]'hil' := by
        rw [List.getElem_toArray, List.getElem_append_left hil']
      rw [this]; rfl
    · simp only [putRow, mapBlock, ahead, Array.getElem?_modify]
      rw [if_neg (by omega)];rfl
    · have e := put_low (enc := encStr) (w := w) (n := q) (d := (Lib.compact (ordU l) ++ List.replicate (l.length - (Lib.compact (ordU l)).length) []).toArray) (os := #[]) (show m <= g by omega) h2
      rwa [grow_empty] at e
theorem names_free {S : Nat -> Prop} {w : World} {A : Option Addr} {l : List ByteArray} (h : NamesAt (strike S w) A l) : NamesAt w A l := fun i s hs => by
 obtain ⟨g, o, hA, hg, hc, hz⟩ := h i s hs
 exact ⟨g, o, hA, by rw [strike_size] at hg; exact hg, (strike_cell.1 hc).2, hz⟩
theorem eitherN_any (A : Option Addr) (ca : Nat) (B : Option Addr) (cb : Nat) (la lb : List Nm) (w : World) (hA : RowIn nmR w A la) (hB : RowIn nmR w B lb) (hza : la.length <= 20000) (hzb : lb.length <= 20000) :
  Calls Tryz.prog 41 #[.slice A la.length ca, .slice B lb.length cb, .func (.func 42) #[] #[]] w fun e w' => ∃ (A' : Option Addr) (c' : Nat), e = .returned (.slice A' (uniN (la.map (·.name) ++ lb.map (·.name))).length c') /\ NamesAt w' A' (uniN (la.map (·.name) ++ lb.map (·.name))) /\ Below w.heap.size w w' := by
 obtain ⟨W1, hW1⟩ : ∃ W1, W1 = w.alloc (.cells #[.slice A la.length ca, .slice B lb.length cb] 42) := ⟨_, rfl⟩
 have B1 : Below w.heap.size w W1 := by rw [hW1]; exact below_new (Below.refl _ _) _
 have O1 : W1.heap[w.heap.size]? = some (.cells #[.slice A la.length ca, .slice B lb.length cb] 42 (0, 0)) := by rw [hW1]; exact heap_alloc_new w _
 have CC := hZ (concatN_any W1 w.heap.size A ca B cb la lb hza hzb (cZ O1 0) (cZ O1 1) (hA.below B1) (hB.below B1))
 have HB1 := hZ B1
 have HW1 := hZ hW1
 obtain ⟨xs, hxs⟩ : ∃ xs, xs = la ++ lb := ⟨_, rfl⟩
 obtain ⟨n, hn⟩ : ∃ n, n = xs.length := ⟨_, rfl⟩
 have hn2 : n <= 40000 := by rw [hn, hxs, List.length_append]; omega
 have hmap : la.map (·.name) ++ lb.map (·.name) = xs.map (·.name) := by rw [hxs, List.map_append]
 rw [hmap]
 obtain ⟨ss, hss⟩ : ∃ ss, ss = xs.map (·.name) := ⟨_, rfl⟩
 rw [<- hss]
 have HSS := hZ hss
 rw [<- hxs, <- hn] at CC
 have HN := hZ hn
 obtain ⟨na, hna⟩ : ∃ k, k = la.length := ⟨_, rfl⟩
 obtain ⟨nb, hnb⟩ : ∃ k, k = lb.length := ⟨_, rfl⟩
 rw [<- hna, <- hnb] at HW1
 rw [<- hna, <- hnb]
 clear hA hB hza hzb B1 O1 hW1 hn hxs hmap hna hnb hss
 go_enter Tryz.func41, Tryz.ntmps41
 go_wp2_with fail
 rw [<- HW1.out]
 refine CC.out.mono ?_; rintro e w2 ⟨A2, c2, rfl, hR2, hb2⟩
 have HR2 := hZ hR2
 have HB2 := hZ (below_over HB1.out hb2)
 clear CC HW1 hR2 hb2
 go_wp2_with fail
 go_loopw [7, 15] (fun s7 s15 wr => ∃ (k : Nat) (A7 : Option Addr) (c7 : Nat), k <= n /\ s15 = .int .i64 k /\ s7 = .slice A7 k c7 /\ Hid (wr.ownsRow w2.heap.size 9 1 (.slice A7 k c7) k (((xs.take k).map (·.name)).map .string)) /\ Hid (Below w2.heap.size w2 wr)) (fun _ s15 _ => n - (intOf s15).toNat)
 case atStart => exact ⟨0, none, 0, by omega, rfl, rfl, hZ (World.ownsRow_nil _ _ _ _), hZ (Below.refl _ _)⟩
 case round =>
  obtain ⟨k, A7, c7, hk, rfl, rfl, HO, HB⟩ := hrel;obtain ⟨wo, rfl⟩ : ∃ wo : World, wo = wr := ⟨_, rfl⟩;by_cases hlt : k < n
  ·obtain ⟨y, hx⟩ : ∃ x, xs[k]? = some x := ⟨_, List.getElem?_eq_getElem (by rw [<- HN.out]; exact hlt)⟩
   obtain ⟨g, o, Bn, cB, Bs, dB, rfl, hg, a0, a1, a2, a3, a4, a5, a6, a7, -⟩ := (HR2.out.below HB.out).nm hx;have HX := hZ hx;obtain ⟨w4, hw4⟩ : ∃ w4, w4 = wo.alloc (.cells #[.string y.name, .int .i64 y.typ.kind, .string y.typ.pkg, .int .i64 y.typ.major, .string y.typ.mod, .string y.typ.name, .slice Bn y.typ.names.length cB, .slice Bs y.typ.subs.length dB] 52) := ⟨_, rfl⟩;have B4 : Below wo.heap.size wo w4 := by rw [hw4]; exact below_new (Below.refl _ _) _
   have Y4 : w4.heap[wo.heap.size]? = some (.cells #[.string y.name, .int .i64 y.typ.kind, .string y.typ.pkg, .int .i64 y.typ.major, .string y.typ.mod, .string y.typ.name, .slice Bn y.typ.names.length cB, .slice Bs y.typ.subs.length dB] 52 (0, 0)) := by rw [hw4]; exact heap_alloc_new wo _
   have HB4 := hZ (below_over HB.out B4);have HO4 : Hid (w4.ownsRow w2.heap.size 9 1 (.slice A7 k c7) k (((xs.take k).map (·.name)).map .string)) := hZ (by rw [hw4]; exact HO.out.alloc _);have NM := hZ (nameOfN_any y Bn cB Bs dB w4);have HW4 := hZ hw4;have hk0 : (0 : Int) <= k := by omega
   have hk1 : (k : Int) < n := by omega
   obtain ⟨y0, y1, y2, y3, y4, y5, y6, y7⟩ := cq8 Y4;simp at y0 y1 y2 y3 y4 y5 y6 y7;clear hx hg B4 hw4 Y4;go_upto_region 5 with fail
   rw [<- HW4.out];clear HW4 a0 a1 a2 a3 a4 a5 a6 a7;go_wp2_with fail
   refine NM.out.mono ?_; rintro e w5 ⟨rfl, hb5⟩
   have HB5 := hZ (below_over HB4.out hb5);have hown : w5.ownsRow w2.heap.size 9 1 (.slice A7 k c7) k (((xs.take k).map (·.name)).map .string) := own_block11 HO4.out (fun b hb => hb5.block b (HO4.out.lt b hb).2);have hsz : w2.heap.size <= w5.heap.size := HB5.out.size;have hAL : ∀ oo, w2.heap.size <= (w5.alloc oo).heap.size := fun oo => by have e1 : (w5.alloc oo).heap.size = w5.heap.size + 1 := (by simp); omega
   obtain ⟨inf, g1', g2', g3', g4'⟩ := info_parts str_info9;have hMX : k + 1 <= maxLen := by unfold maxLen; omega
   clear hb5 NM y0 y1 y2 y3 y4 y5 y6 y7;go_wp2_with (first | (refine wpList_append_lies _ rfl (.tmp 19) (.tmp 23) 47 rfl w2.heap.size 9 inf _ 1 16 Tryz.underlying47 g1' g2' g3' g4' (by rfl) (Nat.zero_lt_succ 0) (.slice A7 k c7) k _ rfl (hown.alloc _) ⟨w5.heap.size, 0, none⟩ 1 1 [.string y.name] rfl rfl (fun q u hq => by rw [WideShapes.add_plain, Nat.zero_add, cZ (heap_alloc_new w5 _), <- hq, <- List.getElem?_toArray]) (fun u hu => by simp at hu; subst hu; rfl) Nat.one_pos hMX (by omega) (hAL _) _ rfl ?_; intro gq pq w6 hown6 hgrow hat hlt6; replace HB5 := hZ (below_grown (below_new HB5.out _) (hAL _) (hown.alloc _) hgrow); replace HO := hZ hown6; clear hown6 hgrow hat hlt6))
   have NO : Hid (w6.ownsRow w2.heap.size 9 1 (.slice (some ⟨gq, 0, none⟩) (k + 1) pq) (k + 1) (((xs.take (k + 1)).map (·.name)).map .string)) := hZ (by
    rw [List.take_add_one, HX.out];simpa using HO.out)
   clear hown hAL g1' g2' g3' g4' HO;go_wp2_with fail
   go_roundw
   case rel => exact ⟨k + 1, some ⟨gq, 0, none⟩, pq, by omega, by go_num, rfl, NO, HB5⟩
   case measure => simp [intOf]; omega
  ·obtain rfl : k = n := by omega
   have hss := HSS.out;have hsl : ss.length = k := by rw [hss, List.length_map, <- HN.out]
   have hO : OwnU wo w2.heap.size (.slice A7 ss.length c7) ss := by
    unfold OwnU
    have h := HO.out;rw [List.take_of_length_le (by rw [<- HN.out]; exact Nat.le_refl _), <- hss] at h;rw [hsl]; exact h
   have HSZ : Hid (∀ s ∈ ss, s.size <= 9223372036854775807) := hZ (fun s hs => by
    rw [hss] at hs;obtain ⟨x, hx, rfl⟩ := List.mem_map.1 hs;obtain ⟨i, hi⟩ := List.getElem?_of_mem hx;obtain ⟨g, o, Bn, cB, Bs, dB, -, -, -, -, -, -, -, -, -, -, -, hz⟩ := HR2.out.nm hi;exact hz)
   have hc7 := hO.holds.1;have CS := hZ (sortU_any A7 c7 w2.heap.size ss wo hO (by omega));rw [hsl] at CS hc7;have HSL := hZ hsl;clear HO hO hss hsl;go_wp2_with fail
   refine CS.out.mono ?_; rintro e w6 ⟨rfl, hH6, hb6⟩
   have HB6 := hZ (HB.out.trans (hb6 _ (Nat.le_refl _) HB.out.size))
   have CU : Hid (Calls Tryz.prog 37 #[.slice A7 k c7] w6 fun e w' => e = .returned (.slice A7 (uniN ss).length c7) /\ NamesAt (strike (fun k => k < w2.heap.size \/ w6.heap.size <= k) w') A7 (uniN ss) /\ (∀ k, w6.heap.size <= k -> k < w6.heap.size -> w'.heap[k]? = w6.heap[k]?) /\ ∀ m, m <= w2.heap.size -> m <= w6.heap.size -> Below m w6 w') := hZ (by
    have := compU_any A7 c7 w2.heap.size w6.heap.size ss w6 hH6 (by rw [HSL.out]; exact hc7) (by rw [HSL.out]; omega) HSZ.out
    rw [HSL.out] at this;exact this)
   clear CS hH6 hb6 hc7;go_wp2_with fail
   refine CU.out.mono ?_; rintro e w7 ⟨rfl, hN7, -, hb7⟩
   have FIN := hZ (below_over HB2.out (HB6.out.trans (hb7 _ (Nat.le_refl _) HB6.out.size)));have HN7 := hZ (names_free hN7);clear CU hN7 hb7;go_wp2_with fail
   go_ret;exact ⟨_, _, rfl, HN7.out, FIN.out⟩
theorem eitherI_any (A : Option Addr) (ca : Nat) (B : Option Addr) (cb : Nat) (la lb : List If) (w : World) (hA : RowIn ifR w A la) (hB : RowIn ifR w B lb) (hza : la.length <= 20000) (hzb : lb.length <= 20000) :
  Calls Tryz.prog 19 #[.slice A la.length ca, .slice B lb.length cb, .func (.func 20) #[] #[]] w fun e w' => ∃ (A' : Option Addr) (c' : Nat), e = .returned (.slice A' (uniN (la.map (·.mod) ++ lb.map (·.mod))).length c') /\ NamesAt w' A' (uniN (la.map (·.mod) ++ lb.map (·.mod))) /\ Below w.heap.size w w' := by
 obtain ⟨W1, hW1⟩ : ∃ W1, W1 = w.alloc (.cells #[.slice A la.length ca, .slice B lb.length cb] 22) := ⟨_, rfl⟩
 have B1 : Below w.heap.size w W1 := by rw [hW1]; exact below_new (Below.refl _ _) _
 have O1 : W1.heap[w.heap.size]? = some (.cells #[.slice A la.length ca, .slice B lb.length cb] 22 (0, 0)) := by rw [hW1]; exact heap_alloc_new w _
 have CC := hZ (concatI_any W1 w.heap.size A ca B cb la lb hza hzb (cZ O1 0) (cZ O1 1) (hA.below B1) (hB.below B1))
 have HB1 := hZ B1
 have HW1 := hZ hW1
 obtain ⟨xs, hxs⟩ : ∃ xs, xs = la ++ lb := ⟨_, rfl⟩
 obtain ⟨n, hn⟩ : ∃ n, n = xs.length := ⟨_, rfl⟩
 have hn2 : n <= 40000 := by rw [hn, hxs, List.length_append]; omega
 have hmap : la.map (·.mod) ++ lb.map (·.mod) = xs.map (·.mod) := by rw [hxs, List.map_append]
 rw [hmap]
 obtain ⟨ss, hss⟩ : ∃ ss, ss = xs.map (·.mod) := ⟨_, rfl⟩
 rw [<- hss]
 have HSS := hZ hss
 rw [<- hxs, <- hn] at CC
 have HN := hZ hn
 obtain ⟨na, hna⟩ : ∃ k, k = la.length := ⟨_, rfl⟩
 obtain ⟨nb, hnb⟩ : ∃ k, k = lb.length := ⟨_, rfl⟩
 rw [<- hna, <- hnb] at HW1
 rw [<- hna, <- hnb]
 clear hA hB hza hzb B1 O1 hW1 hn hxs hmap hna hnb hss
 go_enter Tryz.func19, Tryz.ntmps19
 go_wp2_with fail
 rw [<- HW1.out]
 refine CC.out.mono ?_; rintro e w2 ⟨A2, c2, rfl, hR2, hb2⟩
 have HR2 := hZ hR2
 have HB2 := hZ (below_over HB1.out hb2)
 clear CC HW1 hR2 hb2
 go_wp2_with fail
 go_loopw [7, 15] (fun s7 s15 wr => ∃ (k : Nat) (A7 : Option Addr) (c7 : Nat), k <= n /\ s15 = .int .i64 k /\ s7 = .slice A7 k c7 /\ Hid (wr.ownsRow w2.heap.size 9 1 (.slice A7 k c7) k (((xs.take k).map (·.mod)).map .string)) /\ Hid (Below w2.heap.size w2 wr)) (fun _ s15 _ => n - (intOf s15).toNat)
 case atStart => exact ⟨0, none, 0, by omega, rfl, rfl, hZ (World.ownsRow_nil _ _ _ _), hZ (Below.refl _ _)⟩
 case round =>
  obtain ⟨k, A7, c7, hk, rfl, rfl, HO, HB⟩ := hrel;obtain ⟨wo, rfl⟩ : ∃ wo : World, wo = wr := ⟨_, rfl⟩;by_cases hlt : k < n
  ·obtain ⟨y, hx⟩ : ∃ x, xs[k]? = some x := ⟨_, List.getElem?_eq_getElem (by rw [<- HN.out]; exact hlt)⟩
   obtain ⟨g, o, At, ct, Av, cv, rfl, hg, a0, a1, a2, a3, a4, -⟩ := (HR2.out.below HB.out).ifc hx;have HX := hZ hx;obtain ⟨w4, hw4⟩ : ∃ w4, w4 = wo.alloc (.cells #[.string y.pkg, .int .i64 y.major, .string y.mod, .slice At y.types.length ct, .slice Av y.vals.length cv] 44) := ⟨_, rfl⟩;have B4 : Below wo.heap.size wo w4 := by rw [hw4]; exact below_new (Below.refl _ _) _
   have Y4 : w4.heap[wo.heap.size]? = some (.cells #[.string y.pkg, .int .i64 y.major, .string y.mod, .slice At y.types.length ct, .slice Av y.vals.length cv] 44 (0, 0)) := by rw [hw4]; exact heap_alloc_new wo _
   have HB4 := hZ (below_over HB.out B4);have HO4 : Hid (w4.ownsRow w2.heap.size 9 1 (.slice A7 k c7) k (((xs.take k).map (·.mod)).map .string)) := hZ (by rw [hw4]; exact HO.out.alloc _);have NM := hZ (nameOfI_any y At ct Av cv w4);have HW4 := hZ hw4;have hk0 : (0 : Int) <= k := by omega
   have hk1 : (k : Int) < n := by omega
   obtain ⟨y0, y1, y2, y3, y4⟩ := cq5 Y4;simp at y0 y1 y2 y3 y4;clear hx hg B4 hw4 Y4;go_upto_region 5 with fail
   rw [<- HW4.out];clear HW4 a0 a1 a2 a3 a4;go_wp2_with fail
   refine NM.out.mono ?_; rintro e w5 ⟨rfl, hb5⟩
   have HB5 := hZ (below_over HB4.out hb5);have hown : w5.ownsRow w2.heap.size 9 1 (.slice A7 k c7) k (((xs.take k).map (·.mod)).map .string) := own_block11 HO4.out (fun b hb => hb5.block b (HO4.out.lt b hb).2);have hsz : w2.heap.size <= w5.heap.size := HB5.out.size;have hAL : ∀ oo, w2.heap.size <= (w5.alloc oo).heap.size := fun oo => by have e1 : (w5.alloc oo).heap.size = w5.heap.size + 1 := (by simp); omega
   obtain ⟨inf, g1', g2', g3', g4'⟩ := info_parts str_info9;have hMX : k + 1 <= maxLen := by unfold maxLen; omega
   clear hb5 NM y0 y1 y2 y3 y4;go_wp2_with (first | (refine wpList_append_lies _ rfl (.tmp 19) (.tmp 23) 47 rfl w2.heap.size 9 inf _ 1 16 Tryz.underlying47 g1' g2' g3' g4' (by rfl) (Nat.zero_lt_succ 0) (.slice A7 k c7) k _ rfl (hown.alloc _) ⟨w5.heap.size, 0, none⟩ 1 1 [.string y.mod] rfl rfl (fun q u hq => by rw [WideShapes.add_plain, Nat.zero_add, cZ (heap_alloc_new w5 _), <- hq, <- List.getElem?_toArray]) (fun u hu => by simp at hu; subst hu; rfl) Nat.one_pos hMX (by omega) (hAL _) _ rfl ?_; intro gq pq w6 hown6 hgrow hat hlt6; replace HB5 := hZ (below_grown (below_new HB5.out _) (hAL _) (hown.alloc _) hgrow); replace HO := hZ hown6; clear hown6 hgrow hat hlt6))
   have NO : Hid (w6.ownsRow w2.heap.size 9 1 (.slice (some ⟨gq, 0, none⟩) (k + 1) pq) (k + 1) (((xs.take (k + 1)).map (·.mod)).map .string)) := hZ (by
    rw [List.take_add_one, HX.out];simpa using HO.out)
   clear hown hAL g1' g2' g3' g4' HO;go_wp2_with fail
   go_roundw
   case rel => exact ⟨k + 1, some ⟨gq, 0, none⟩, pq, by omega, by go_num, rfl, NO, HB5⟩
   case measure => simp [intOf]; omega
  ·obtain rfl : k = n := by omega
   have hss := HSS.out;have hsl : ss.length = k := by rw [hss, List.length_map, <- HN.out]
   have hO : OwnU wo w2.heap.size (.slice A7 ss.length c7) ss := by
    unfold OwnU
    have h := HO.out;rw [List.take_of_length_le (by rw [<- HN.out]; exact Nat.le_refl _), <- hss] at h;rw [hsl]; exact h
   have HSZ : Hid (∀ s ∈ ss, s.size <= 9223372036854775807) := hZ (fun s hs => by
    rw [hss] at hs;obtain ⟨x, hx, rfl⟩ := List.mem_map.1 hs;obtain ⟨i, hi⟩ := List.getElem?_of_mem hx;obtain ⟨g, o, At, ct, Av, cv, -, -, -, -, -, -, -, -, hz, -⟩ := HR2.out.ifc hi;exact hz)
   have hc7 := hO.holds.1;have CS := hZ (sortU_any A7 c7 w2.heap.size ss wo hO (by omega));rw [hsl] at CS hc7;have HSL := hZ hsl;clear HO hO hss hsl;go_wp2_with fail
   refine CS.out.mono ?_; rintro e w6 ⟨rfl, hH6, hb6⟩
   have HB6 := hZ (HB.out.trans (hb6 _ (Nat.le_refl _) HB.out.size))
   have CU : Hid (Calls Tryz.prog 37 #[.slice A7 k c7] w6 fun e w' => e = .returned (.slice A7 (uniN ss).length c7) /\ NamesAt (strike (fun k => k < w2.heap.size \/ w6.heap.size <= k) w') A7 (uniN ss) /\ (∀ k, w6.heap.size <= k -> k < w6.heap.size -> w'.heap[k]? = w6.heap[k]?) /\ ∀ m, m <= w2.heap.size -> m <= w6.heap.size -> Below m w6 w') := hZ (by
    have := compU_any A7 c7 w2.heap.size w6.heap.size ss w6 hH6 (by rw [HSL.out]; exact hc7) (by rw [HSL.out]; omega) HSZ.out
    rw [HSL.out] at this;exact this)
   clear CS hH6 hb6 hc7;go_wp2_with fail
   refine CU.out.mono ?_; rintro e w7 ⟨rfl, hN7, -, hb7⟩
   have FIN := hZ (below_over HB2.out (HB6.out.trans (hb7 _ (Nat.le_refl _) HB6.out.size)));have HN7 := hZ (names_free hN7);clear CU hN7 hb7;go_wp2_with fail
   go_ret;exact ⟨_, _, rfl, HN7.out, FIN.out⟩
end Go.Proofs.YtddlmigofilejaaGreat
