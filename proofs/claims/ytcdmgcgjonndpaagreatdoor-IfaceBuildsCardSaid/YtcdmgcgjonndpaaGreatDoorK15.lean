/-
  Several texts in one.
-/
import Derived.Test.YtcdmgcgjonndpaaGreatDoorK14
set_option maxRecDepth 100000
set_option maxHeartbeats 16000000
namespace Go.Proofs.YtcdmgcgjonndpaaGreatDoor
open Go.RowKit Go.Shelf
open Go.Sort Go.Maps
open M
def ShL (l : List Value) (t : Ty) : Prop := ∃ (An : Option Addr) (cn : Nat) (As : Option Addr) (cs : Nat), l = [.int .i64 t.kind, .string t.pkg, .int .i64 t.major, .string t.mod, .string t.name, .slice An t.names.length cn, .slice As t.subs.length cs]
theorem ShL.one {l : List Value} {t : Ty} (h : ShL l t) : ∀ u ∈ l, u.oneCell' = true := by
 obtain ⟨An, cn, As, cs, rfl⟩ := h
 intro u hu
 simp at hu
 rcases hu with rfl | rfl | rfl | rfl | rfl | rfl | rfl <;> rfl
def OwnL (w : World) (lo : Nat) (v : Value) (xs : List Ty) : Prop :=
 ∃ C : List (List Value), C.length = xs.length /\ (∀ l, l ∈ C -> l.length = 7) /\ w.ownsRow lo 45 7 v xs.length C.flatten /\ ∀ (i : Nat) (l : List Value) (x : Ty), C[i]? = some l -> xs[i]? = some x -> ShL l x
theorem OwnL.nil (w : World) (lo : Nat) : OwnL w lo (.slice none 0 0) [] := ⟨[], rfl, fun l h => (by cases h), World.ownsRow_nil _ _ _ _, fun i l x h => by simp at h⟩
theorem OwnL.keep {w w' : World} {lo : Nat} {v : Value} {xs : List Ty} (h : OwnL w lo v xs) (hb : ∀ b, lo <= b -> b < w.heap.size -> w'.heap[b]? = w.heap[b]?) : OwnL w' lo v xs := by
 obtain ⟨C, h1, h2, h3, h4⟩ := h
 exact ⟨C, h1, h2, own_from h3 hb, h4⟩
theorem OwnL.mono {w : World} {lo lo' : Nat} {v : Value} {xs : List Ty} (h : OwnL w lo v xs) (hl : lo' <= lo) : OwnL w lo' v xs := by
 obtain ⟨C, h1, h2, h3, h4⟩ := h
 refine ⟨C, h1, h2, ⟨h3.1, ?_⟩, h4⟩
 rcases h3.2 with h | ⟨g, cap, cur, hv, hB, rest⟩
 ·exact .inl h
 ·exact .inr ⟨g, cap, cur, hv, Nat.le_trans hl hB, rest⟩
theorem OwnL.joined {w : World} {lo : Nat} {v : Value} {xs ys : List Ty} {C D : List (List Value)} (h1 : C.length = xs.length) (h2 : ∀ l, l ∈ C -> l.length = 7) (h4 : ∀ (i : Nat) (l : List Value) (x : Ty), C[i]? = some l -> xs[i]? = some x -> ShL l x)
  (k1 : D.length = ys.length) (k2 : ∀ l, l ∈ D -> l.length = 7) (k4 : ∀ (i : Nat) (l : List Value) (x : Ty), D[i]? = some l -> ys[i]? = some x -> ShL l x) (hown : w.ownsRow lo 45 7 v (xs.length + ys.length) (C.flatten ++ D.flatten)) : OwnL w lo v (xs ++ ys) := by
 refine ⟨C ++ D, by simp [h1, k1], fun l hl => ?_, by rw [List.length_append, List.flatten_append]; exact hown, fun i l x hl hx => ?_⟩
 ·rcases List.mem_append.1 hl with h | h
  ·exact h2 l h
  ·exact k2 l h
 ·rcases Nat.lt_or_ge i xs.length with hi | hi
  ·rw [List.getElem?_append_left (by omega)] at hl hx
   exact h4 i l x hl hx
  ·rw [List.getElem?_append_right (by omega)] at hl hx
   rw [h1] at hl;exact k4 _ l x hl hx
theorem OwnL.get {w : World} {lo : Nat} {A : Option Addr} {n c : Nat} {xs : List Ty} (h : OwnL w lo (.slice A n c) xs) {i : Nat} {x : Ty} (hx : xs[i]? = some x) : ∃ (g : Nat) (An : Option Addr) (cn : Nat) (As : Option Addr) (cs : Nat), A = some ⟨g, 0, none⟩ /\ lo <= g /\ g < w.heap.size /\
  ∀ (j : Nat) (v : Value), ([.int .i64 x.kind, .string x.pkg, .int .i64 x.major, .string x.mod, .string x.name, .slice An x.names.length cn, .slice As x.subs.length cs] : List Value)[j]? = some v -> w.cell? ⟨g, i * 7 + j, none⟩ = some v := by
 obtain ⟨C, h1, h2, h3, h4⟩ := h
 have hi := (List.getElem?_eq_some_iff.1 hx).1
 have hli : C[i]? = some C[i] := List.getElem?_eq_getElem (by omega)
 obtain ⟨An, cn, As, cs, e⟩ := h4 i _ x hli hx
 rcases h3.2 with ⟨e, h0⟩ | ⟨g, cap, cur, hv, hB, hg, -, -, hcl, htake⟩
 ·omega
 ·cases hv
  refine ⟨g, An, cn, As, cs, rfl, hB, (Array.getElem?_eq_some_iff.1 hg).1, fun j v hv => ?_⟩;rw [<- e] at hv;have hj := (List.getElem?_eq_some_iff.1 hv).1;rw [h2 _ (List.getElem_mem (by omega))] at hj;have hf := flatk_at C h2 i j _ hli hj;rw [cZ hg, <- Array.getElem?_toList];have e2 : (cur.toList.take (xs.length * 7))[i * 7 + j]? = C[i][j]? := by rw [htake, hf]
  rw [List.getElem?_take] at e2;split at e2
  ·rw [e2]; exact hv
  ·omega
theorem rlocals_any (N : Nat) : ∀ (t : Ty), many t <= N -> many t <= 9000 -> ∀ (v : Value) (w : World), TyV w v t ->
  Calls Tryz.prog 60 #[v] w fun e w' => ∃ v' : Value, e = .returned v' /\ OwnL w' w.heap.size v' (locT t) /\ Below w.heap.size w w' := by
 induction N with
 | zero => intro t h; have := many_pos t; omega
 | succ N ih =>
 intro t hN hM v w hv
 obtain ⟨l, rfl, hT⟩ := hv
 obtain ⟨An, cn, As, cs, rfl, -, -, -, -, hz, -, hS⟩ := hT.parts
 obtain ⟨W1, hW1⟩ : ∃ W1, W1 = w.alloc (.cells #[.int .i64 t.kind, .string t.pkg, .int .i64 t.major, .string t.mod, .string t.name, .slice An t.names.length cn, .slice As t.subs.length cs] 45) := ⟨_, rfl⟩
 have hB : Below w.heap.size w W1 := by rw [hW1]; exact below_new (Below.refl _ _) _
 have X1 : W1.heap[w.heap.size]? = some (.cells #[.int .i64 t.kind, .string t.pkg, .int .i64 t.major, .string t.mod, .string t.name, .slice An t.names.length cn, .slice As t.subs.length cs] 45 (0, 0)) := by rw [hW1]; exact heap_alloc_new w _
 have hlo : w.heap.size < W1.heap.size := by rw [hW1]; simp
 have HS := hZ (hS.below hB)
 have HB := hZ hB
 have HW1 := hZ hW1
 have HX1 := hZ X1
 have HMN : Hid (∀ s ∈ t.subs, many s <= N /\ many s <= 9000) := hZ (fun s hs => by have h1 := manyL_mem _ _ hs; have h2 := manyL_eq t; omega)
 have hml : t.subs.length <= 9000 := by have := manyL_len t.subs; have := manyL_eq t; omega
 obtain ⟨L0, hL0⟩ : ∃ L0, L0 = (if t.kind = 8 then [t] else []) := ⟨_, rfl⟩
 have RS : Hid (locT t = L0 ++ locL t.subs) := hZ (by rw [hL0]; exact locT_eq t)
 have HLN : Hid (∀ k, (L0 ++ locL (t.subs.take k)).length <= 9000) := hZ (fun k => by
  have h1 := locT_len t;rw [RS.out] at h1;have h2 : locL t.subs = locL (t.subs.take k) ++ locL (t.subs.drop k) := by rw [<- locL_append, List.take_append_drop]
  rw [h2, <- List.append_assoc, List.length_append] at h1;omega)
 obtain ⟨q, hq⟩ : ∃ q, q = t.subs.length := ⟨_, rfl⟩
 have HQ := hZ hq
 rw [<- hq] at hml
 obtain ⟨i0, hi, hz0, hz1, hz2⟩ := info_parts typ_info
 clear hT hS hB hW1 X1 hN hM hz hq
 have X1 := HX1.out
 obtain ⟨y0, y1, y2, y3, y4, y5, y6⟩ := cq7 X1
 simp at y0 y1 y2 y3 y4 y5 y6
 clear X1
 by_cases hk : t.kind = 8
 ·have q8 : (t.kind == 8) = true := by rw [hk]; rfl
  rw [if_pos hk] at hL0;clear hk;go_enter Tryz.func60, Tryz.ntmps60
  go_upto_region 3 with fail
  rw [<- HW1.out];have hAL : ∀ oo, W1.heap.size <= (W1.alloc oo).heap.size := fun oo => by simp
  go_wp2_with (first | (refine wpList_append_lies _ rfl (.tmp 8) (.tmp 10) 43 rfl W1.heap.size 45 i0 _ 7 112 Tryz.underlying43 hi hz0 hz1 hz2 (by rfl) (by decide) (.slice none 0 0) 0 [] rfl (World.ownsRow_nil _ _ _ _) ⟨W1.heap.size, 0, none⟩ 1 1 [.int .i64 t.kind, .string t.pkg, .int .i64 t.major, .string t.mod, .string t.name, .slice An t.names.length cn, .slice As t.subs.length cs] rfl rfl (fun p u hq => by rw [WideShapes.add_plain, Nat.zero_add, cZ (heap_alloc_new W1 _), <- hq, <- List.getElem?_toArray]) (fun u hu => by simp at hu; rcases hu with rfl | rfl | rfl | rfl | rfl | rfl | rfl <;> rfl) Nat.one_pos (by unfold maxLen; omega) (by omega) (hAL _) _ rfl ?_; intro gb cap w3 hown hgrow hat hlt3))
  have START : Hid (OwnL w3 W1.heap.size (.slice (some ⟨gb, 0, none⟩) 1 cap) (L0 ++ locL (t.subs.take 0))) := hZ (by
   rw [hL0]
   exact ⟨[[.int .i64 t.kind, .string t.pkg, .int .i64 t.major, .string t.mod, .string t.name, .slice An t.names.length cn, .slice As t.subs.length cs]], rfl, fun l hl => by rw [List.mem_singleton.1 hl]; rfl, hown, fun i l x hl hx => by
    have hi0 : i = 0 := by have := (List.getElem?_eq_some_iff.1 hl).1; simp at this; exact this
    subst hi0;simp [locL] at hl hx;rw [<- hl, <- hx]; exact ⟨An, cn, As, cs, rfl⟩⟩)
  have STARTB : Hid (Below W1.heap.size W1 w3) := hZ ⟨hgrow.os, hgrow.tape, hgrow.output, Nat.le_trans (by simp) hgrow.size, fun b hb => (hgrow.block b (by simp; omega) (by simp [Value.ownBlock])).trans (Lib.alloc_old _ _ _ hb)⟩;clear hown hgrow hat hlt3 hAL y0 y1 y2 y3 y4 y5 y6 q8 hL0;go_wp2_with fail
  go_loopw [3, 4] (fun s3 iv wr => ∃ (k : Nat) (v3 : Value), v3 = s3 /\ k <= q /\ iv = .int .i64 k /\ Hid (OwnL wr W1.heap.size v3 (L0 ++ locL (t.subs.take k))) /\ Hid (Below W1.heap.size W1 wr)) (fun _ iv _ => q - (intOf iv).toNat)
  case atStart => exact ⟨0, _, rfl, by omega, rfl, START, STARTB⟩
  case round =>
   obtain ⟨k, v3, rfl, hkq, rfl, HO, HBo⟩ := hrel;obtain ⟨wo, rfl⟩ : ∃ wo : World, wo = wr := ⟨_, rfl⟩;have hl1 := Nat.lt_of_lt_of_le hlo HBo.out.size;have y6 := cZ ((HBo.out.block w.heap.size hlo).trans HX1.out) 6;simp at y6;rw [<- HQ.out] at y6;by_cases hlt : k < q
   ·obtain ⟨s, hs⟩ : ∃ s, t.subs[k]? = some s := ⟨_, List.getElem?_eq_getElem (by rw [<- HQ.out]; exact hlt)⟩
    obtain ⟨g, o, v0, v1, v2, v3', v4, v5, v6, rfl, hg, h0, h1, h2, h3, h4, h5, h6, hs7⟩ := HS.out.below HBo.out k s hs;obtain ⟨Am, cm, At, ct, rfl, rfl, rfl, rfl, rfl, rfl, rfl⟩ := hs7.seven;have IH := hZ (ih s (HMN.out s (List.mem_of_getElem? hs)).1 (HMN.out s (List.mem_of_getElem? hs)).2 (.agg #[.int .i64 s.kind, .string s.pkg, .int .i64 s.major, .string s.mod, .string s.name, .slice Am s.names.length cm, .slice At s.subs.length ct]) wo ⟨_, rfl, hs7⟩);have RL : Hid (L0 ++ locL (t.subs.take (k + 1)) = L0 ++ locL (t.subs.take k) ++ locT s) := hZ (by rw [locL_take _ _ _ hs, List.append_assoc]);have hlen := HLN.out (k + 1);rw [RL.out, List.length_append] at hlen;have hk0 : (0 : Int) <= k := by omega
    have hk1 : (k : Int) < q := by omega
    clear hs7 hs;go_wp2_with fail
    refine IH.out.mono ?_; rintro e w4 ⟨v', rfl, ho4, hb4⟩
    have hs4 := hb4.size;have O4 := HO.out.keep (w' := w4) (fun b _ h => hb4.block b h);have HB4 : Hid (Below W1.heap.size W1 w4) := hZ (below_over HBo.out hb4);obtain ⟨L, hL⟩ : ∃ L, L = L0 ++ locL (t.subs.take k) := ⟨_, rfl⟩;obtain ⟨P, hP⟩ : ∃ P, P = locT s := ⟨_, rfl⟩;rw [<- hL] at O4 hlen RL;rw [<- hP] at ho4 hlen RL;clear h0 h1 h2 h3 h4 h5 h6 y6 IH HO hL hP hb4;obtain ⟨C4, c4l, c47, c4o, c4e⟩ := O4;obtain ⟨D4, d4l, d47, d4o, d4e⟩ := ho4
    have hone : ∀ u ∈ D4.flatten, u.oneCell' = true := fun u hu => by
     obtain ⟨l, hl, hu⟩ := List.mem_flatten.1 hu;obtain ⟨i, hi⟩ := List.mem_iff_getElem?.1 hl;have hil := (List.getElem?_eq_some_iff.1 hi).1;exact (d4e i l _ hi (List.getElem?_eq_getElem (by omega))).one u hu
    have hMX : L.length + P.length <= maxLen := by unfold maxLen; omega
    go_wp2_with (at_builtin; go_loud (refine wpList_append_rows rfl _ _ 43 rfl W1.heap.size wo.heap.size 45 i0 _ 7 112 Tryz.underlying43 hi hz0 hz1 hz2 rfl (by decide) v3 L.length C4.flatten rfl c4o v' P.length D4.flatten rfl d4o hone hMX (by omega) HB4.out.size ?_))
    intro v5 w5 hown hgrow
    have FIN : Hid (OwnL w5 W1.heap.size v5 (L0 ++ locL (t.subs.take (k + 1)))) := hZ (by
     rw [RL.out];exact OwnL.joined c4l c47 c4e d4l d47 d4e hown)
    have FB : Hid (Below W1.heap.size W1 w5) := hZ (below_grown HB4.out HB4.out.size c4o hgrow);clear hown hgrow;go_wp2_with fail
    go_roundw
    case rel => exact ⟨k + 1, v5, rfl, by omega, by go_num, FIN, FB⟩
    case measure => simp [intOf]; omega
   ·obtain rfl : k = q := by omega
    have hfull : t.subs.take k = t.subs := List.take_of_length_le (by rw [<- HQ.out]; exact Nat.le_refl _);have FIN : Hid (OwnL wo w.heap.size v3 (locT t)) := hZ (by rw [RS.out, <- hfull]; exact HO.out.mono (by omega));have FB := hZ (HB.out.trans (HBo.out.mono HB.out.size));clear HO;go_wp2_with fail
    go_ret;exact ⟨_, rfl, FIN.out, FB.out⟩
 ·have q8 : (t.kind == 8) = false := by simpa using hk
  rw [if_neg hk] at hL0;clear hk;have START : Hid (OwnL W1 W1.heap.size (.slice none 0 0) (L0 ++ locL (t.subs.take 0))) := hZ (by rw [hL0]; exact OwnL.nil _ _);have STARTB : Hid (Below W1.heap.size W1 W1) := hZ (Below.refl _ _);go_enter Tryz.func60, Tryz.ntmps60
  go_upto_region 2 with fail
  rw [<- HW1.out];go_wp2_with fail
  clear y0 y1 y2 y3 y4 y5 y6 q8 hL0;go_loopw [3, 4] (fun s3 iv wr => ∃ (k : Nat) (v3 : Value), v3 = s3 /\ k <= q /\ iv = .int .i64 k /\ Hid (OwnL wr W1.heap.size v3 (L0 ++ locL (t.subs.take k))) /\ Hid (Below W1.heap.size W1 wr)) (fun _ iv _ => q - (intOf iv).toNat)
  case atStart => exact ⟨0, _, rfl, by omega, rfl, START, STARTB⟩
  case round =>
   obtain ⟨k, v3, rfl, hkq, rfl, HO, HBo⟩ := hrel;obtain ⟨wo, rfl⟩ : ∃ wo : World, wo = wr := ⟨_, rfl⟩;have hl1 := Nat.lt_of_lt_of_le hlo HBo.out.size;have y6 := cZ ((HBo.out.block w.heap.size hlo).trans HX1.out) 6;simp at y6;rw [<- HQ.out] at y6;by_cases hlt : k < q
   ·obtain ⟨s, hs⟩ : ∃ s, t.subs[k]? = some s := ⟨_, List.getElem?_eq_getElem (by rw [<- HQ.out]; exact hlt)⟩
    obtain ⟨g, o, v0, v1, v2, v3', v4, v5, v6, rfl, hg, h0, h1, h2, h3, h4, h5, h6, hs7⟩ := HS.out.below HBo.out k s hs;obtain ⟨Am, cm, At, ct, rfl, rfl, rfl, rfl, rfl, rfl, rfl⟩ := hs7.seven;have IH := hZ (ih s (HMN.out s (List.mem_of_getElem? hs)).1 (HMN.out s (List.mem_of_getElem? hs)).2 (.agg #[.int .i64 s.kind, .string s.pkg, .int .i64 s.major, .string s.mod, .string s.name, .slice Am s.names.length cm, .slice At s.subs.length ct]) wo ⟨_, rfl, hs7⟩);have RL : Hid (L0 ++ locL (t.subs.take (k + 1)) = L0 ++ locL (t.subs.take k) ++ locT s) := hZ (by rw [locL_take _ _ _ hs, List.append_assoc]);have hlen := HLN.out (k + 1);rw [RL.out, List.length_append] at hlen;have hk0 : (0 : Int) <= k := by omega
    have hk1 : (k : Int) < q := by omega
    clear hs7 hs;go_wp2_with fail
    refine IH.out.mono ?_; rintro e w4 ⟨v', rfl, ho4, hb4⟩
    have hs4 := hb4.size;have O4 := HO.out.keep (w' := w4) (fun b _ h => hb4.block b h);have HB4 : Hid (Below W1.heap.size W1 w4) := hZ (below_over HBo.out hb4);obtain ⟨L, hL⟩ : ∃ L, L = L0 ++ locL (t.subs.take k) := ⟨_, rfl⟩;obtain ⟨P, hP⟩ : ∃ P, P = locT s := ⟨_, rfl⟩;rw [<- hL] at O4 hlen RL;rw [<- hP] at ho4 hlen RL;clear h0 h1 h2 h3 h4 h5 h6 y6 IH HO hL hP hb4;obtain ⟨C4, c4l, c47, c4o, c4e⟩ := O4;obtain ⟨D4, d4l, d47, d4o, d4e⟩ := ho4
    have hone : ∀ u ∈ D4.flatten, u.oneCell' = true := fun u hu => by
     obtain ⟨l, hl, hu⟩ := List.mem_flatten.1 hu;obtain ⟨i, hi⟩ := List.mem_iff_getElem?.1 hl;have hil := (List.getElem?_eq_some_iff.1 hi).1;exact (d4e i l _ hi (List.getElem?_eq_getElem (by omega))).one u hu
    have hMX : L.length + P.length <= maxLen := by unfold maxLen; omega
    go_wp2_with (at_builtin; go_loud (refine wpList_append_rows rfl _ _ 43 rfl W1.heap.size wo.heap.size 45 i0 _ 7 112 Tryz.underlying43 hi hz0 hz1 hz2 rfl (by decide) v3 L.length C4.flatten rfl c4o v' P.length D4.flatten rfl d4o hone hMX (by omega) HB4.out.size ?_))
    intro v5 w5 hown hgrow
    have FIN : Hid (OwnL w5 W1.heap.size v5 (L0 ++ locL (t.subs.take (k + 1)))) := hZ (by
     rw [RL.out];exact OwnL.joined c4l c47 c4e d4l d47 d4e hown)
    have FB : Hid (Below W1.heap.size W1 w5) := hZ (below_grown HB4.out HB4.out.size c4o hgrow);clear hown hgrow;go_wp2_with fail
    go_roundw
    case rel => exact ⟨k + 1, v5, rfl, by omega, by go_num, FIN, FB⟩
    case measure => simp [intOf]; omega
   ·obtain rfl : k = q := by omega
    have hfull : t.subs.take k = t.subs := List.take_of_length_le (by rw [<- HQ.out]; exact Nat.le_refl _);have FIN : Hid (OwnL wo w.heap.size v3 (locT t)) := hZ (by rw [RS.out, <- hfull]; exact HO.out.mono (by omega));have FB := hZ (HB.out.trans (HBo.out.mono HB.out.size));clear HO;go_wp2_with fail
    go_ret;exact ⟨_, rfl, FIN.out, FB.out⟩
end Go.Proofs.YtcdmgcgjonndpaaGreatDoor
namespace Go.Proofs.YtcdmgcgjonndpaaGreatDoor
open Go Go.RowKit Go.Shelf
open Go.Sort Go.Maps
open M
theorem there_at {m : Mo} {env : List If} {t : Ty} {i : Nat} {x : Im} (h : impAt m t.mod = some i) (hx : m.imps[i]? = some x) : thereT m env t = match envT env x t.name with | none => none | some s => if (mayT s && plainT s) = true then some s else none := by
 unfold thereT; simp only [h, hx]
 cases envT env x t.name <;> rfl
theorem there_no {m : Mo} {env : List If} {t : Ty} (h : impAt m t.mod = none) : thereT m env t = none := by unfold thereT; rw [h]
theorem env_at {env : List If} {x : Im} {s : ByteArray} {k n : Nat} {i : If} {y : Nm} (hk : findI env x.pkg x.major x.mod = some k) (hi : env[k]? = some i) (hn : ofI i.types s = some n) (hy : i.types[n]? = some y) : envT env x s = some y.typ := by
 unfold envT; rw [hk]; simp only []; rw [hi]; simp only []; rw [hn]; simp only []; rw [hy]; rfl
theorem env_no1 {env : List If} {x : Im} {s : ByteArray} (hk : findI env x.pkg x.major x.mod = none) : envT env x s = none := by unfold envT; rw [hk]
theorem env_no2 {env : List If} {x : Im} {s : ByteArray} {k : Nat} {i : If} (hk : findI env x.pkg x.major x.mod = some k) (hi : env[k]? = some i) (hn : ofI i.types s = none) : envT env x s = none := by
 unfold envT; rw [hk]; simp only []; rw [hi]; simp only []; rw [hn]
theorem findI_lt {env : List If} {p : ByteArray} {j : Int} {d : ByteArray} {k : Nat} (h : findI env p j d = some k) : k < env.length := by
 unfold findI at h
 rw [List.findIdx?_eq_some_iff_getElem] at h
 exact h.1
theorem ofI_lt {l : List Nm} {s : ByteArray} {k : Nat} (h : ofI l s = some k) : k < l.length := by
 unfold ofI at h
 rw [List.findIdx?_eq_some_iff_getElem] at h
 exact h.1
def ThOut (w : World) (m : Mo) (env : List If) (t : Ty) (e : Ending) (w' : World) : Prop :=
 ∃ (l7 : List Value) (s : Ty) (b : Bool), e = .returned (.tuple #[.agg l7.toArray, .bool b]) /\ TyAt w' l7 s /\ b = (thereT m env t).isSome /\ (∀ s0, thereT m env t = some s0 -> s = s0) /\ Below w.heap.size w w'
theorem zero_at (w : World) : TyAt w [.int .i64 0, .string ⟨#[]⟩, .int .i64 0, .string ⟨#[]⟩, .string ⟨#[]⟩, .slice none 0 0, .slice none 0 0] (.mk 0 ⟨#[]⟩ 0 ⟨#[]⟩ ⟨#[]⟩ [] []) :=
 .mk 0 ⟨#[]⟩ 0 ⟨#[]⟩ ⟨#[]⟩ [] [] none 0 none 0 (fun _ => [.int .i64 0, .string ⟨#[]⟩, .int .i64 0, .string ⟨#[]⟩, .string ⟨#[]⟩, .slice none 0 0, .slice none 0 0]) (by decide) (by decide) (by decide) (by decide) (by decide) (by decide) (fun i s h => by simp at h) (fun _ => rfl) (fun i t h => by simp at h) (fun i t h => by simp at h)
theorem th_zero {w wk : World} {m : Mo} {env : List If} {t : Ty} {b : Nat} (h : thereT m env t = none) (hb : Below w.heap.size w wk) (hle : w.heap.size <= b) : ThOut w m env t (.returned (.tuple #[.agg #[.int .i64 0, .string ⟨#[]⟩, .int .i64 0, .string ⟨#[]⟩, .string ⟨#[]⟩, .slice none 0 0, .slice none 0 0], .bool false])) (wk.setRow b #[.int .i64 0, .string ⟨#[]⟩, .int .i64 0, .string ⟨#[]⟩, .string ⟨#[]⟩, .slice none 0 0, .slice none 0 0]) :=
 ⟨[.int .i64 0, .string ⟨#[]⟩, .int .i64 0, .string ⟨#[]⟩, .string ⟨#[]⟩, .slice none 0 0, .slice none 0 0], _, false, rfl, zero_at _, by rw [h]; rfl, fun s0 hs => by (rw [h] at hs; cases hs), setRow_below hb hle _⟩
theorem there_any (m : Mo) (l : List Value) (A : Option Addr) (c : Nat) (env : List If) (t : Ty) (l7 : List Value) (w : World) (h : MoAt w l m) (hE : RowIn ifR w A env) (hel : env.length <= 9223372036854775807) (hv : ShL l7 t) (h9 : ∀ x ∈ env, ∀ y ∈ x.types, many y.typ <= 9000) :
  Calls Tryz.prog 105 #[.agg l.toArray, .slice A env.length c, .agg l7.toArray] w (ThOut w m env t) := by
 obtain ⟨Ai, ci, Ad, cd, rfl, z1, z2, z3, hIm, -⟩ := h
 obtain ⟨An, cA, As, cS, rfl⟩ := hv
 obtain ⟨ni, hni⟩ : ∃ ni, ni = m.imps.length := ⟨_, rfl⟩
 have HNI := hZ hni
 rw [<- hni] at z2 ⊢
 have H9 := hZ h9
 have HE0 := hZ hE
 obtain ⟨W2, hW2, B2, O0, O1, hl2⟩ := two_boxes w #[.string m.name, .slice Ai ni ci, .slice Ad m.decs.length cd] #[.int .i64 t.kind, .string t.pkg, .int .i64 t.major, .string t.mod, .string t.name, .slice An t.names.length cA, .slice As t.subs.length cS] 25 45
 have s2 : W2.heap.size = w.heap.size + 1 + 1 := by rw [hW2]; simp
 obtain ⟨W3, hW3⟩ : ∃ W3, W3 = W2.alloc (.cells #[.int .i64 0, .string ⟨#[]⟩, .int .i64 0, .string ⟨#[]⟩, .string ⟨#[]⟩, .slice none 0 0, .slice none 0 0] 45) := ⟨_, rfl⟩
 have B3 : Below W2.heap.size W2 W3 := by rw [hW3]; exact below_new (Below.refl _ _) _
 have s3 : W3.heap.size = w.heap.size + 1 + 1 + 1 := by rw [hW3]; simp [s2]
 have O2 : W3.heap[w.heap.size + 1 + 1]? = some (.cells #[.int .i64 0, .string ⟨#[]⟩, .int .i64 0, .string ⟨#[]⟩, .string ⟨#[]⟩, .slice none 0 0, .slice none 0 0] 45 (0, 0)) := by rw [hW3, <- s2]; exact heap_alloc_new W2 _
 have HB3 : Hid (Below w.heap.size w W3) := hZ (below_over B2 B3)
 have HM : Hid (∀ wx, Below W3.heap.size W3 wx -> wx.heap[w.heap.size]? = some (.cells #[.string m.name, .slice Ai ni ci, .slice Ad m.decs.length cd] 25 (0, 0))) := hZ (fun wx hb => (hb.block _ (by omega)).trans ((B3.block _ (by omega)).trans O0))
 have HT : Hid (∀ wx, Below W3.heap.size W3 wx -> wx.heap[w.heap.size + 1]? = some (.cells #[.int .i64 t.kind, .string t.pkg, .int .i64 t.major, .string t.mod, .string t.name, .slice An t.names.length cA, .slice As t.subs.length cS] 45 (0, 0))) := hZ (fun wx hb => (hb.block _ (by omega)).trans ((B3.block _ (by omega)).trans O1))
 have HR : Hid (∀ wx, Below W3.heap.size W3 wx -> wx.heap[w.heap.size + 1 + 1]? = some (.cells #[.int .i64 0, .string ⟨#[]⟩, .int .i64 0, .string ⟨#[]⟩, .string ⟨#[]⟩, .slice none 0 0, .slice none 0 0] 45 (0, 0))) := hZ (fun wx hb => (hb.block _ (by omega)).trans O2)
 have HI : Hid (∀ wx, Below W3.heap.size W3 wx -> RowIn imR wx Ai m.imps) := hZ (fun wx hb => hIm.below (below_over HB3.out hb))
 have HE : Hid (∀ wx, Below W3.heap.size W3 wx -> RowIn ifR wx A env) := hZ (fun wx hb => hE.below (below_over HB3.out hb))
 have HW : Hid (((w.alloc (.cells #[.string m.name, .slice Ai ni ci, .slice Ad m.decs.length cd] 25)).alloc (.cells #[.int .i64 t.kind, .string t.pkg, .int .i64 t.major, .string t.mod, .string t.name, .slice An t.names.length cA, .slice As t.subs.length cS] 45)).alloc (.cells #[.int .i64 0, .string ⟨#[]⟩, .int .i64 0, .string ⟨#[]⟩, .string ⟨#[]⟩, .slice none 0 0, .slice none 0 0] 45) = W3) := hZ (by rw [hW3, hW2])
 have hbl : w.heap.size <= w.heap.size + 1 + 1 := by omega
 clear hIm hE hW2 hW3 B2 B3 O0 O1 O2 s2 hl2 hni h9
 go_enter Tryz.func105, Tryz.ntmps105
 go_upto_region 1 with fail
 rw [HW.out]
 clear HW
 go_wp2_with fail
 go_loopw [8] (fun s8 wr => ∃ i : Nat, i <= ni /\ s8 = .int .i64 i /\ Hid (∀ x ∈ m.imps.take i, decide (x.asn = t.mod) = false) /\ Hid (Below W3.heap.size W3 wr)) (fun s8 _ => ni - (intOf s8).toNat)
 case atStart => exact ⟨0, by omega, rfl, hZ (by simp), hZ (Below.refl _ _)⟩
 case round =>
  obtain ⟨i, hi, rfl, HNO, HBo⟩ := hrel;obtain ⟨wo, rfl⟩ : ∃ wo : World, wo = wr := ⟨_, rfl⟩;have x1 := cZ (HM.out wo HBo.out) 1;simp at x1;have hwo : w.heap.size + 1 + 1 < wo.heap.size := by have := HBo.out.size; omega
  by_cases hlt : i < ni
  ·obtain ⟨x, hx⟩ : ∃ x, m.imps[i]? = some x := ⟨_, List.getElem?_eq_getElem (by rw [<- HNI.out]; exact hlt)⟩
   obtain ⟨g, o, rfl, -, a0, a1, a2, a3, zp, zd, za⟩ := (HI.out wo HBo.out).im hx;obtain ⟨w4, hw4⟩ : ∃ w4, w4 = wo.alloc (.cells #[.string x.pkg, .int .i64 x.major, .string x.mod, .string x.asn] 84) := ⟨_, rfl⟩;have B4 : Below wo.heap.size wo w4 := by rw [hw4]; exact below_new (Below.refl _ _) _
   have O4 : w4.heap[wo.heap.size]? = some (.cells #[.string x.pkg, .int .i64 x.major, .string x.mod, .string x.asn] 84 (0, 0)) := by rw [hw4]; exact heap_alloc_new wo _
   have hl4 : wo.heap.size < w4.heap.size := by rw [hw4]; simp
   have HB4 : Hid (Below W3.heap.size W3 w4) := hZ (below_over HBo.out B4);have t3 := cZ (HT.out w4 HB4.out) 3;obtain ⟨y0, y1, y2, y3⟩ := cq4 O4;simp at t3 y0 y1 y2 y3;have hq := str_eq x.asn t.mod;have HX := hZ hx;have HW4 := hZ hw4;have HBB4 := hZ B4;have hi0 : (0 : Int) <= i := by omega
   have hi1 : (i : Int) < ni := by omega
   clear hx hw4 B4 O4;go_upto_region 5 with fail
   rw [<- HW4.out];clear x1 a0 a1 a2 a3 HW4;by_cases hs : x.asn = t.mod
   ·have HIA : Hid (impAt m t.mod = some i) := hZ (idx_yes HX.out HNO.out (by simpa using hs))
    have HTH : Hid (thereT m env t = match envT env x t.name with | none => none | some s => if (mayT s && plainT s) = true then some s else none) := hZ (there_at HIA.out HX.out);rw [decide_eq_true hs] at hq;clear hs;go_wp2_with fail
    refine (rfind8_any A c env x.pkg x.major x.mod w4 (HE.out w4 HB4.out) hel).mono ?_; rintro e w5 ⟨rfl, hb5⟩
    have HB5 : Hid (Below W3.heap.size W3 w5) := hZ (below_over HB4.out hb5);clear t3 y0 y1 y2 y3 hb5 hq;cases hk : findI env x.pkg x.major x.mod with
    | none =>
     have FIN := hZ (th_zero (w := w) (wk := w5) (m := m) (env := env) (t := t) (by rw [HTH.out, env_no1 hk]) (below_over HB3.out HB5.out) hbl);have X5 := HR.out w5 HB5.out;have HX5 := hZ X5;have e1 : optN none = -1 := rfl;rw [e1];clear hk e1;go_upto_region 8 with fail
     go_wp2_with (first | (((with_reducible refine wpList_putRow 45 (w.heap.size + 1 + 1) #[.int .i64 0, .string ⟨#[]⟩, .int .i64 0, .string ⟨#[]⟩, .string ⟨#[]⟩, .slice none 0 0, .slice none 0 0] _ _ X5 ?_ ?_ ?_ ?_ ?_ ?_); exact tySize; rfl; exact tyOne; (focus (first | (go_simp; done) | rfl)); (focus (first | (go_simp; done) | rfl)))))
     exact ret_agg (fn := Tryz.f105) (vs := [.int .i64 0, .string ⟨#[]⟩, .int .i64 0, .string ⟨#[]⟩, .string ⟨#[]⟩, .slice none 0 0, .slice none 0 0]) (b := w.heap.size + 1 + 1) rfl rfl rfl Tryz.underlying45 (by kernel_rfl) (cell7 (setRow_heap w5 (w.heap.size + 1 + 1) _ _ _ _ HX5.out)) rfl FIN.out
    | some k =>
     obtain ⟨y, hy⟩ : ∃ y, env[k]? = some y := ⟨_, List.getElem?_eq_getElem (findI_lt hk)⟩;obtain ⟨ge, oe, At, ct, Av, cv, rfl, hge, e0, e1, e2, e3, e4, -, -, zt, -, hTy, -⟩ := HE0.out.ifc hy;have e3' := ((below_over HB3.out HB5.out).cell (p := ⟨ge, _, none⟩) hge).trans e3
     have T5 := HT.out w5 HB5.out;have t4 := cZ T5 4;simp at t4;have hkl : k < env.length := findI_lt hk;have hk0 : (0 : Int) <= k := by omega
     have hk1 : (k : Int) < env.length := by omega
     have hk2 : ¬ (k : Int) < 0 := by omega
     obtain ⟨J, hJ⟩ : ∃ J, J = optN (ofI y.types t.name) := ⟨_, rfl⟩;have cO : ∀ dd os, Calls Tryz.prog 139 #[.slice At y.types.length ct, .string t.name] (Sort.grow (redrawn w5 dd) os) fun e w'' => e = .returned (.int .i64 J) /\ ∃ pp : Regrown, w'' = Sort.grow (redrawn w5 pp.d) pp.os := fun dd os => Calls.regrown_of (by rw [hJ]; exact rof8_any At ct y.types t.name _ ((hTy.below (below_over HB3.out HB5.out)).below (below_regrown w5 dd os)) zt)
     have HK := hZ hk;have HY := hZ hy;have HTy := hZ hTy;have HJ := hZ hJ;have HE3 := hZ e3;have ek : optN (some k) = (k : Int) := rfl;rw [ek];clear hk hy e0 e1 e2 e3 e4 hTy T5 hJ ek;go_upto_region 9 with fail
     have p0 := cell_regrown e3';have p1 := cell_regrown t4;clear e3' t4;refine wp_region_quiet_below (by kernel_rfl) (by kernel_rfl) ?_;repeat (any_goals (first | go_big_quiet_step (with_reducible exact cO _ _) | quiet_step (with_reducible exact cO _ _)))
     refine wpQuiet_nil ?_;intro w6 hw'
     have HB6 : Hid (Below W3.heap.size W3 w6) := hZ (by
      obtain ⟨⟨dq, osq⟩, hw''⟩ := hw';rw [hw''];exact below_over HB5.out (below_regrown w5 dq osq))
     clear hw' cO p0 p1;cases hn : ofI y.types t.name with
     | none =>
      have FIN := hZ (th_zero (w := w) (wk := w6) (m := m) (env := env) (t := t) (by rw [HTH.out, env_no2 HK.out HY.out hn]) (below_over HB3.out HB6.out) hbl);have X5 := HR.out w6 HB6.out;have HX5 := hZ X5;obtain rfl : J = -1 := by rw [HJ.out, hn]; rfl
      clear hn;go_upto_region 11 with fail
      go_wp2_with (first | (((with_reducible refine wpList_putRow 45 (w.heap.size + 1 + 1) #[.int .i64 0, .string ⟨#[]⟩, .int .i64 0, .string ⟨#[]⟩, .string ⟨#[]⟩, .slice none 0 0, .slice none 0 0] _ _ X5 ?_ ?_ ?_ ?_ ?_ ?_); exact tySize; rfl; exact tyOne; (focus (first | (go_simp; done) | rfl)); (focus (first | (go_simp; done) | rfl)))))
      exact ret_agg (fn := Tryz.f105) (vs := [.int .i64 0, .string ⟨#[]⟩, .int .i64 0, .string ⟨#[]⟩, .string ⟨#[]⟩, .slice none 0 0, .slice none 0 0]) (b := w.heap.size + 1 + 1) rfl rfl rfl Tryz.underlying45 (by kernel_rfl) (cell7 (setRow_heap w6 (w.heap.size + 1 + 1) _ _ _ _ HX5.out)) rfl FIN.out
     | some n =>
      obtain rfl : J = (n : Int) := by rw [HJ.out, hn]; rfl
      have hnl := ofI_lt hn;obtain ⟨z, hz⟩ : ∃ z, y.types[n]? = some z := ⟨_, List.getElem?_eq_getElem hnl⟩;obtain ⟨gt, ot, Bn, cB, Bs, dB, rfl, hgt, -, f0, f1, f2, f3, f4, f5, f6, hTz, -⟩ := HTy.out.nm hz;have HENV : Hid (envT env x t.name = some z.typ) := hZ (env_at HK.out HY.out hn hz);have hz9 := H9.out y (List.mem_of_getElem? HY.out) z (List.mem_of_getElem? hz);have B06 := below_over HB3.out HB6.out;have g3 := (B06.cell (p := ⟨ge, _, none⟩) hge).trans HE3.out;have q := fun o v (hv : w.cell? ⟨gt, o, none⟩ = some v) => (B06.cell (p := ⟨gt, o, none⟩) hgt).trans hv
      have q0 := q _ _ f0;have q1 := q _ _ f1;have q2 := q _ _ f2;have q3 := q _ _ f3;have q4 := q _ _ f4;have q5 := q _ _ f5;have q6 := q _ _ f6;obtain ⟨w7, hw7⟩ : ∃ w7, w7 = w6.alloc (.cells #[.int .i64 z.typ.kind, .string z.typ.pkg, .int .i64 z.typ.major, .string z.typ.mod, .string z.typ.name, .slice Bn z.typ.names.length cB, .slice Bs z.typ.subs.length dB] 45) := ⟨_, rfl⟩;have B7 : Below w6.heap.size w6 w7 := by rw [hw7]; exact below_new (Below.refl _ _) _
      have O7 : w7.heap[w6.heap.size]? = some (.cells #[.int .i64 z.typ.kind, .string z.typ.pkg, .int .i64 z.typ.major, .string z.typ.mod, .string z.typ.name, .slice Bn z.typ.names.length cB, .slice Bs z.typ.subs.length dB] 45 (0, 0)) := by rw [hw7]; exact heap_alloc_new w6 _
      have hl7 : w6.heap.size < w7.heap.size := by rw [hw7]; simp
      have HB7 : Hid (Below W3.heap.size W3 w7) := hZ (below_over HB6.out B7);have HO7 := hZ O7;have HW7 := hZ hw7;have HTZ : Hid (∀ wx, Below w.heap.size w wx -> TyAt wx [.int .i64 z.typ.kind, .string z.typ.pkg, .int .i64 z.typ.major, .string z.typ.mod, .string z.typ.name, .slice Bn z.typ.names.length cB, .slice Bs z.typ.subs.length dB] z.typ) := hZ (fun wx hb => hTz.keep hb);have hn0 : (0 : Int) <= n := by omega
      have hn1 : (n : Int) < y.types.length := by omega
      have hn2 : ¬ (n : Int) < 0 := by omega
      clear hn hz hTz f0 f1 f2 f3 f4 f5 f6 q B06 hw7 B7 O7 HJ;go_upto_region 12 with fail
      go_upto_region 13 with fail
      rw [<- HW7.out];clear g3 q0 q1 q2 q3 q4 q5 q6 HW7;have o7 := HO7.out;obtain ⟨r0, r1, r2, r3, r4, r5, r6⟩ := cq7 o7;simp at r0 r1 r2 r3 r4 r5 r6;clear o7;go_wp2_with fail
      refine (may_any z.typ _ w7 hz9 ⟨_, rfl, HTZ.out w7 (below_over HB3.out HB7.out)⟩).mono ?_; rintro e w8 ⟨rfl, hb8⟩
      have HB8 : Hid (Below W3.heap.size W3 w8) := hZ (below_over HB7.out hb8);have HO8 := hZ ((hb8.block _ hl7).trans HO7.out);have hl8 := Nat.lt_of_lt_of_le hl7 hb8.size;clear r0 r1 r2 r3 r4 r5 r6 hb8 HO7;obtain ⟨b1, hb1⟩ : ∃ b, b = mayT z.typ := ⟨_, rfl⟩;obtain ⟨b2, hb2⟩ : ∃ b, b = plainT z.typ := ⟨_, rfl⟩;rw [<- hb1];have HTHz : Hid (thereT m env t = if (b1 && b2) = true then some z.typ else none) := hZ (by rw [HTH.out, HENV.out, hb1, hb2])
      have FIN : Hid (∀ wk, Below w.heap.size w wk -> ThOut w m env t (.returned (.tuple #[.agg #[.int .i64 z.typ.kind, .string z.typ.pkg, .int .i64 z.typ.major, .string z.typ.mod, .string z.typ.name, .slice Bn z.typ.names.length cB, .slice Bs z.typ.subs.length dB], .bool (b1 && b2)])) (wk.setRow (w.heap.size + 1 + 1) #[.int .i64 z.typ.kind, .string z.typ.pkg, .int .i64 z.typ.major, .string z.typ.mod, .string z.typ.name, .slice Bn z.typ.names.length cB, .slice Bs z.typ.subs.length dB])) := hZ (fun wk hb => by
       have hbs := setRow_below hb hbl #[.int .i64 z.typ.kind, .string z.typ.pkg, .int .i64 z.typ.major, .string z.typ.mod, .string z.typ.name, .slice Bn z.typ.names.length cB, .slice Bs z.typ.subs.length dB];refine ⟨_, z.typ, _, rfl, HTZ.out _ hbs, ?_, fun s0 hs => ?_, hbs⟩
       ·rw [HTHz.out]; cases (b1 && b2) <;> rfl
       ·rw [HTHz.out] at hs
        split at hs
        ·cases hs; rfl
        ·cases hs)
      have HBB2 := hZ hb2;clear hb1 hb2;have o8 := HO8.out;obtain ⟨r0, r1, r2, r3, r4, r5, r6⟩ := cq7 o8;simp at r0 r1 r2 r3 r4 r5 r6;clear o8;cases b1 with
      | false =>
       have X5 := HR.out w8 HB8.out;have HX5 := hZ X5;have FF := hZ (FIN.out w8 (below_over HB3.out HB8.out));go_upto_region 15 with fail
       go_wp2_with (first | (((with_reducible refine wpList_putRow 45 (w.heap.size + 1 + 1) #[.int .i64 z.typ.kind, .string z.typ.pkg, .int .i64 z.typ.major, .string z.typ.mod, .string z.typ.name, .slice Bn z.typ.names.length cB, .slice Bs z.typ.subs.length dB] _ _ X5 ?_ ?_ ?_ ?_ ?_ ?_); exact tySize; rfl; exact tyOne; (focus (first | (go_simp; done) | rfl)); (focus (first | (go_simp; done) | rfl)))))
       exact ret_agg (fn := Tryz.f105) (vs := [.int .i64 z.typ.kind, .string z.typ.pkg, .int .i64 z.typ.major, .string z.typ.mod, .string z.typ.name, .slice Bn z.typ.names.length cB, .slice Bs z.typ.subs.length dB]) (b := w.heap.size + 1 + 1) rfl rfl rfl Tryz.underlying45 (by kernel_rfl) (cell7 (setRow_heap w8 (w.heap.size + 1 + 1) _ _ _ _ HX5.out)) rfl FF.out
      | true =>
       go_wp2_with fail
       refine (plain_any (many z.typ) z.typ (Nat.le_refl _) _ w8 ⟨_, rfl, HTZ.out w8 (below_over HB3.out HB8.out)⟩).mono ?_; rintro e w9 ⟨rfl, hb9⟩
       have HB9 : Hid (Below W3.heap.size W3 w9) := hZ (below_over HB8.out hb9);have o9 := (hb9.block _ hl8).trans HO8.out;rw [<- HBB2.out];clear r0 r1 r2 r3 r4 r5 r6 hb9;obtain ⟨r0, r1, r2, r3, r4, r5, r6⟩ := cq7 o9;simp at r0 r1 r2 r3 r4 r5 r6;clear o9;have X5 := HR.out w9 HB9.out;have HX5 := hZ X5;have FF := hZ (FIN.out w9 (below_over HB3.out HB9.out));go_upto_region 15 with fail
       go_wp2_with (first | (((with_reducible refine wpList_putRow 45 (w.heap.size + 1 + 1) #[.int .i64 z.typ.kind, .string z.typ.pkg, .int .i64 z.typ.major, .string z.typ.mod, .string z.typ.name, .slice Bn z.typ.names.length cB, .slice Bs z.typ.subs.length dB] _ _ X5 ?_ ?_ ?_ ?_ ?_ ?_); exact tySize; rfl; exact tyOne; (focus (first | (go_simp; done) | rfl)); (focus (first | (go_simp; done) | rfl)))))
       exact ret_agg (fn := Tryz.f105) (vs := [.int .i64 z.typ.kind, .string z.typ.pkg, .int .i64 z.typ.major, .string z.typ.mod, .string z.typ.name, .slice Bn z.typ.names.length cB, .slice Bs z.typ.subs.length dB]) (b := w.heap.size + 1 + 1) rfl rfl rfl Tryz.underlying45 (by kernel_rfl) (cell7 (setRow_heap w9 (w.heap.size + 1 + 1) _ _ _ _ HX5.out)) rfl FF.out
   ·rw [decide_eq_false hs] at hq
    have NX : Hid (∀ y ∈ m.imps.take (i + 1), decide (y.asn = t.mod) = false) := hZ (fun y hy => by
     rw [List.take_add_one, HX.out] at hy;rcases List.mem_append.1 hy with h | h
     ·exact HNO.out y h
     ·simp at h; rw [h]; simpa using hs)
    clear hs;go_wp2_with fail
    go_roundw
    case rel => exact ⟨i + 1, by omega, by go_num, NX, HB4⟩
    case measure => simp [intOf]; omega
  ·have HIA : Hid (impAt m t.mod = none) := hZ (idx_no (fun x hx => HNO.out x (by rw [List.take_of_length_le (by rw [<- HNI.out]; omega)]; exact hx)))
   have FIN := hZ (th_zero (w := w) (wk := wo) (m := m) (env := env) (t := t) (there_no HIA.out) (below_over HB3.out HBo.out) hbl);have X5 := HR.out wo HBo.out;have HX5 := hZ X5;go_upto_region 16 with fail
   go_wp2_with (first | (((with_reducible refine wpList_putRow 45 (w.heap.size + 1 + 1) #[.int .i64 0, .string ⟨#[]⟩, .int .i64 0, .string ⟨#[]⟩, .string ⟨#[]⟩, .slice none 0 0, .slice none 0 0] _ _ X5 ?_ ?_ ?_ ?_ ?_ ?_); exact tySize; rfl; exact tyOne; (focus (first | (go_simp; done) | rfl)); (focus (first | (go_simp; done) | rfl)))))
   exact ret_agg (fn := Tryz.f105) (vs := [.int .i64 0, .string ⟨#[]⟩, .int .i64 0, .string ⟨#[]⟩, .string ⟨#[]⟩, .slice none 0 0, .slice none 0 0]) (b := w.heap.size + 1 + 1) rfl rfl rfl Tryz.underlying45 (by kernel_rfl) (cell7 (setRow_heap wo (w.heap.size + 1 + 1) _ _ _ _ HX5.out)) rfl FIN.out
def zIf : If := ⟨⟨#[]⟩, 0, ⟨#[]⟩, [], []⟩
def zTy : Ty := .mk 0 ⟨#[]⟩ 0 ⟨#[]⟩ ⟨#[]⟩ [] []
def gotI (env : List If) (x : Im) : If := match findI env x.pkg x.major x.mod with | none => zIf | some k => (env[k]?).getD zIf
def gotT (l : List Nm) (s : ByteArray) : Ty := match ofI l s with | none => zTy | some k => ((l[k]?).map (·.typ)).getD zTy
theorem gotI_no {env : List If} {x : Im} (h : findI env x.pkg x.major x.mod = none) : gotI env x = zIf := by unfold gotI; rw [h]
theorem gotI_at {env : List If} {x : Im} {k : Nat} {y : If} (h : findI env x.pkg x.major x.mod = some k) (hy : env[k]? = some y) : gotI env x = y := by unfold gotI; rw [h]; simp only []; rw [hy]; rfl
theorem gotT_no {l : List Nm} {s : ByteArray} (h : ofI l s = none) : gotT l s = zTy := by unfold gotT; rw [h]
theorem gotT_at {l : List Nm} {s : ByteArray} {k : Nat} {y : Nm} (h : ofI l s = some k) (hy : l[k]? = some y) : gotT l s = y.typ := by unfold gotT; rw [h]; simp only []; rw [hy]; rfl
theorem ifSize : (Tryz.prog.info? 32).map (·.size) = some 5 := by kernel_rfl
theorem ifOne {p d : ByteArray} {m : Int} {A B : Option Addr} {n c k e : Nat} : (#[.string p, .int .i64 m, .string d, .slice A n c, .slice B k e] : Array Value).all (·.oneCell') = true := Array.all_eq_true_iff_forall_mem.2 (fun v hv => by simp at hv; rcases hv with rfl | rfl | rfl | rfl | rfl <;> rfl)
theorem cell5 {w : World} {b : Nat} {v0 v1 v2 v3 v4 : Value} {T : TypeId} {fr : Nat × Nat} (h : w.heap[b]? = some (.cells #[v0, v1, v2, v3, v4] T fr)) : ∀ i v, ([v0, v1, v2, v3, v4] : List Value)[i]? = some v -> w.cell? ⟨b, i, none⟩ = some v := fun i v hv => by
  rw [cZ h, <- hv, <- List.getElem?_toArray]
theorem zero_if (w : World) : ifE w [.string ⟨#[]⟩, .int .i64 0, .string ⟨#[]⟩, .slice none 0 0, .slice none 0 0] zIf :=
  ⟨none, 0, none, 0, rfl, by decide, by decide, by decide, by decide, fun i x h => by simp [zIf] at h, fun i x h => by simp [zIf] at h⟩
def FiOut (w0 w : World) (env : List If) (x : Im) (e : Ending) (w' : World) : Prop :=
  ∃ l : List Value, e = .returned (.tuple #[.agg l.toArray, .bool (findI env x.pkg x.major x.mod).isSome]) /\ (∀ wx, Below w0.heap.size w0 wx -> ifE wx l (gotI env x)) /\ Below w.heap.size w w'
def OfOut (w0 w : World) (L : List Nm) (s : ByteArray) (e : Ending) (w' : World) : Prop :=
  ∃ l : List Value, e = .returned (.tuple #[.agg l.toArray, .bool (ofI L s).isSome]) /\ (∀ wx, Below w0.heap.size w0 wx -> TyAt wx l (gotT L s)) /\ Below w.heap.size w w'
theorem find8_any (A : Option Addr) (c : Nat) (env : List If) (x : Im) (w0 w : World) (h : RowIn ifR w0 A env) (hw : Below w0.heap.size w0 w) (hl : env.length <= 9223372036854775807) :
    Calls Tryz.prog 167 #[.slice A env.length c, .agg #[.string x.pkg, .int .i64 x.major, .string x.mod, .string x.asn]] w (FiOut w0 w env x) := by
  have HE := hZ h;have HW0 := hZ hw;obtain ⟨W2, hW2, B2, O0, O1, hl2⟩ := two_boxes w #[.string x.pkg, .int .i64 x.major, .string x.mod, .string x.asn] #[.string ⟨#[]⟩, .int .i64 0, .string ⟨#[]⟩, .slice none 0 0, .slice none 0 0] 84 32;have IX := hZ (pIf_index A c env x w.heap.size W2 ((h.below hw).below B2) hl O0);have HB0 := hZ B2;have HO1 := hZ O1;have HW := hZ hW2;obtain ⟨J, hJ⟩ : ∃ J, J = optN (findI env x.pkg x.major x.mod) := ⟨_, rfl⟩;have HJ := hZ hJ;have EJ : optN (env.findIdx? (isIf x.pkg x.major x.mod)) = J := hJ.symm;rw [EJ] at IX;obtain ⟨n, hn⟩ : ∃ n, n = env.length := ⟨_, rfl⟩;have HN := hZ hn;rw [<- hn] at hl IX ⊢;clear h hw hW2 B2 O0 O1 hJ EJ hn;go_enter Tryz.func167, Tryz.ntmps167
  go_upto_region 1 with fail
  rw [<- HW.out];clear HW;go_wp2_with fail
  refine IX.out.mono ?_; rintro e w2 ⟨rfl, hb2⟩
  have HB2 : Hid (Below w.heap.size w w2) := hZ (below_over HB0.out hb2);have X5 := (hb2.block _ hl2).trans HO1.out;have HX5 := hZ X5;clear hb2 IX;cases hk : findI env x.pkg x.major x.mod with
  | none =>
    obtain rfl : J = -1 := by rw [HJ.out, hk]; rfl
    have FIN : Hid (FiOut w0 w env x (.returned (.tuple #[.agg #[.string ⟨#[]⟩, .int .i64 0, .string ⟨#[]⟩, .slice none 0 0, .slice none 0 0], .bool false])) (w2.setRow (w.heap.size + 1) #[.string ⟨#[]⟩, .int .i64 0, .string ⟨#[]⟩, .slice none 0 0, .slice none 0 0])) := hZ ⟨[.string ⟨#[]⟩, .int .i64 0, .string ⟨#[]⟩, .slice none 0 0, .slice none 0 0], by rw [hk]; rfl, by rw [gotI_no hk]; exact fun wx _ => zero_if _, setRow_below HB2.out (by omega) _⟩;clear hk;go_upto_region 4 with fail
    go_wp2_with (first | ((with_reducible refine wpList_putRow 32 (w.heap.size + 1) #[.string ⟨#[]⟩, .int .i64 0, .string ⟨#[]⟩, .slice none 0 0, .slice none 0 0] _ _ X5 ?_ ?_ ?_ ?_ ?_ ?_); exact ifSize; rfl; exact ifOne; (focus (first | (go_simp; done) | rfl)); (focus (first | (go_simp; done) | rfl))))
    exact ret_agg (fn := Tryz.f167) (vs := [.string ⟨#[]⟩, .int .i64 0, .string ⟨#[]⟩, .slice none 0 0, .slice none 0 0]) (b := w.heap.size + 1) rfl rfl rfl Tryz.underlying32 (by kernel_rfl) (cell5 (setRow_heap w2 (w.heap.size + 1) _ _ _ _ HX5.out)) rfl FIN.out
  | some k =>
    obtain rfl : J = (k : Int) := by rw [HJ.out, hk]; rfl
    have hkl := findI_lt hk;obtain ⟨y, hy⟩ : ∃ y, env[k]? = some y := ⟨_, List.getElem?_eq_getElem hkl⟩;obtain ⟨g, o, At, ct, Av, cv, rfl, hg, a0, a1, a2, a3, a4, z0, z1, z2, z3, hT, hVL⟩ := HE.out.ifc hy;have c0 := ((below_over HW0.out HB2.out).cell (p := ⟨g, _, none⟩) hg).trans a0;have c1 := ((below_over HW0.out HB2.out).cell (p := ⟨g, _, none⟩) hg).trans a1;have c2 := ((below_over HW0.out HB2.out).cell (p := ⟨g, _, none⟩) hg).trans a2;have c3 := ((below_over HW0.out HB2.out).cell (p := ⟨g, _, none⟩) hg).trans a3;have c4 := ((below_over HW0.out HB2.out).cell (p := ⟨g, _, none⟩) hg).trans a4
    have FIN : Hid (FiOut w0 w env x (.returned (.tuple #[.agg #[.string y.pkg, .int .i64 y.major, .string y.mod, .slice At y.types.length ct, .slice Av y.vals.length cv], .bool true])) (w2.setRow (w.heap.size + 1) #[.string y.pkg, .int .i64 y.major, .string y.mod, .slice At y.types.length ct, .slice Av y.vals.length cv])) := hZ (by
      have hb := setRow_below HB2.out (b := w.heap.size + 1) (by omega) #[.string y.pkg, .int .i64 y.major, .string y.mod, .slice At y.types.length ct, .slice Av y.vals.length cv];exact ⟨[.string y.pkg, .int .i64 y.major, .string y.mod, .slice At y.types.length ct, .slice Av y.vals.length cv], by rw [hk]; rfl, by rw [gotI_at hk hy]; exact fun wx hb => ⟨At, ct, Av, cv, rfl, z0, z1, z2, z3, hT.below hb, hVL.below hb⟩, hb⟩)
    rw [<- HN.out] at hkl;have hk0 : (0 : Int) <= k := by omega
    have hk1 : (k : Int) < n := by omega
    have hk2 : ¬ (k : Int) < 0 := by omega
    clear hk hy hT hVL a0 a1 a2 a3 a4;go_upto_region 5 with fail
    go_wp2_with (first | ((with_reducible refine wpList_putRow 32 (w.heap.size + 1) #[.string y.pkg, .int .i64 y.major, .string y.mod, .slice At y.types.length ct, .slice Av y.vals.length cv] _ _ X5 ?_ ?_ ?_ ?_ ?_ ?_); exact ifSize; rfl; exact ifOne; (focus (first | (go_simp; done) | rfl)); (focus (first | (go_simp; done) | rfl))))
    exact ret_agg (fn := Tryz.f167) (vs := [.string y.pkg, .int .i64 y.major, .string y.mod, .slice At y.types.length ct, .slice Av y.vals.length cv]) (b := w.heap.size + 1) rfl rfl rfl Tryz.underlying32 (by kernel_rfl) (cell5 (setRow_heap w2 (w.heap.size + 1) _ _ _ _ HX5.out)) rfl FIN.out
theorem of8_any (A : Option Addr) (c : Nat) (L : List Nm) (s : ByteArray) (w0 w : World) (h : RowIn nmR w0 A L) (hw : Below w0.heap.size w0 w) (hl : L.length <= 9223372036854775807) :
    Calls Tryz.prog 168 #[.slice A L.length c, .string s] w (OfOut w0 w L s) := by
  have HE := hZ h;have HW0 := hZ hw;obtain ⟨W2, hW2, B2, O0, O1, hl2⟩ := two_boxes w #[.string s] #[.int .i64 0, .string ⟨#[]⟩, .int .i64 0, .string ⟨#[]⟩, .string ⟨#[]⟩, .slice none 0 0, .slice none 0 0] 9 45;have IX := hZ (pNm_index A c L s w.heap.size W2 ((h.below hw).below B2) hl O0);have HB0 := hZ B2;have HO1 := hZ O1;have HW := hZ hW2;obtain ⟨J, hJ⟩ : ∃ J, J = optN (ofI L s) := ⟨_, rfl⟩;have HJ := hZ hJ;have EJ : optN (L.findIdx? (isNm s)) = J := hJ.symm;rw [EJ] at IX;obtain ⟨n, hn⟩ : ∃ n, n = L.length := ⟨_, rfl⟩;have HN := hZ hn;rw [<- hn] at hl IX ⊢;clear h hw hW2 B2 O0 O1 hJ EJ hn;go_enter Tryz.func168, Tryz.ntmps168
  go_upto_region 1 with fail
  rw [<- HW.out];clear HW;go_wp2_with fail
  refine IX.out.mono ?_; rintro e w2 ⟨rfl, hb2⟩
  have HB2 : Hid (Below w.heap.size w w2) := hZ (below_over HB0.out hb2);have X5 := (hb2.block _ hl2).trans HO1.out;have HX5 := hZ X5;clear hb2 IX;cases hk : ofI L s with
  | none =>
    obtain rfl : J = -1 := by rw [HJ.out, hk]; rfl
    have FIN : Hid (OfOut w0 w L s (.returned (.tuple #[.agg #[.int .i64 0, .string ⟨#[]⟩, .int .i64 0, .string ⟨#[]⟩, .string ⟨#[]⟩, .slice none 0 0, .slice none 0 0], .bool false])) (w2.setRow (w.heap.size + 1) #[.int .i64 0, .string ⟨#[]⟩, .int .i64 0, .string ⟨#[]⟩, .string ⟨#[]⟩, .slice none 0 0, .slice none 0 0])) := hZ ⟨[.int .i64 0, .string ⟨#[]⟩, .int .i64 0, .string ⟨#[]⟩, .string ⟨#[]⟩, .slice none 0 0, .slice none 0 0], by rw [hk]; rfl, by rw [gotT_no hk]; exact fun wx _ => zero_at _, setRow_below HB2.out (by omega) _⟩;clear hk;go_upto_region 3 with fail
    go_wp2_with (first | (((with_reducible refine wpList_putRow 45 (w.heap.size + 1) #[.int .i64 0, .string ⟨#[]⟩, .int .i64 0, .string ⟨#[]⟩, .string ⟨#[]⟩, .slice none 0 0, .slice none 0 0] _ _ X5 ?_ ?_ ?_ ?_ ?_ ?_); exact tySize; rfl; exact tyOne; (focus (first | (go_simp; done) | rfl)); (focus (first | (go_simp; done) | rfl)))))
    exact ret_agg (fn := Tryz.f168) (vs := [.int .i64 0, .string ⟨#[]⟩, .int .i64 0, .string ⟨#[]⟩, .string ⟨#[]⟩, .slice none 0 0, .slice none 0 0]) (b := w.heap.size + 1) rfl rfl rfl Tryz.underlying45 (by kernel_rfl) (cell7 (setRow_heap w2 (w.heap.size + 1) _ _ _ _ HX5.out)) rfl FIN.out
  | some k =>
    obtain rfl : J = (k : Int) := by rw [HJ.out, hk]; rfl
    have hkl := ofI_lt hk;obtain ⟨y, hy⟩ : ∃ y, L[k]? = some y := ⟨_, List.getElem?_eq_getElem hkl⟩;obtain ⟨g, o, Bn, cB, Bs, dB, rfl, hg, -, a0, a1, a2, a3, a4, a5, a6, hT, -⟩ := HE.out.nm hy;have c0 := ((below_over HW0.out HB2.out).cell (p := ⟨g, _, none⟩) hg).trans a0;have c1 := ((below_over HW0.out HB2.out).cell (p := ⟨g, _, none⟩) hg).trans a1;have c2 := ((below_over HW0.out HB2.out).cell (p := ⟨g, _, none⟩) hg).trans a2;have c3 := ((below_over HW0.out HB2.out).cell (p := ⟨g, _, none⟩) hg).trans a3;have c4 := ((below_over HW0.out HB2.out).cell (p := ⟨g, _, none⟩) hg).trans a4;have c5 := ((below_over HW0.out HB2.out).cell (p := ⟨g, _, none⟩) hg).trans a5;have c6 := ((below_over HW0.out HB2.out).cell (p := ⟨g, _, none⟩) hg).trans a6
    have FIN : Hid (OfOut w0 w L s (.returned (.tuple #[.agg #[.int .i64 y.typ.kind, .string y.typ.pkg, .int .i64 y.typ.major, .string y.typ.mod, .string y.typ.name, .slice Bn y.typ.names.length cB, .slice Bs y.typ.subs.length dB], .bool true])) (w2.setRow (w.heap.size + 1) #[.int .i64 y.typ.kind, .string y.typ.pkg, .int .i64 y.typ.major, .string y.typ.mod, .string y.typ.name, .slice Bn y.typ.names.length cB, .slice Bs y.typ.subs.length dB])) := hZ (by
      have hb := setRow_below HB2.out (b := w.heap.size + 1) (by omega) #[.int .i64 y.typ.kind, .string y.typ.pkg, .int .i64 y.typ.major, .string y.typ.mod, .string y.typ.name, .slice Bn y.typ.names.length cB, .slice Bs y.typ.subs.length dB];exact ⟨[.int .i64 y.typ.kind, .string y.typ.pkg, .int .i64 y.typ.major, .string y.typ.mod, .string y.typ.name, .slice Bn y.typ.names.length cB, .slice Bs y.typ.subs.length dB], by rw [hk]; rfl, by rw [gotT_at hk hy]; exact fun wx hb => hT.keep hb, hb⟩)
    rw [<- HN.out] at hkl;have hk0 : (0 : Int) <= k := by omega
    have hk1 : (k : Int) < n := by omega
    have hk2 : ¬ (k : Int) < 0 := by omega
    clear hk hy hT a0 a1 a2 a3 a4 a5 a6;go_upto_region 4 with fail
    go_wp2_with (first | (((with_reducible refine wpList_putRow 45 (w.heap.size + 1) #[.int .i64 y.typ.kind, .string y.typ.pkg, .int .i64 y.typ.major, .string y.typ.mod, .string y.typ.name, .slice Bn y.typ.names.length cB, .slice Bs y.typ.subs.length dB] _ _ X5 ?_ ?_ ?_ ?_ ?_ ?_); exact tySize; rfl; exact tyOne; (focus (first | (go_simp; done) | rfl)); (focus (first | (go_simp; done) | rfl)))))
    exact ret_agg (fn := Tryz.f168) (vs := [.int .i64 y.typ.kind, .string y.typ.pkg, .int .i64 y.typ.major, .string y.typ.mod, .string y.typ.name, .slice Bn y.typ.names.length cB, .slice Bs y.typ.subs.length dB]) (b := w.heap.size + 1) rfl rfl rfl Tryz.underlying45 (by kernel_rfl) (cell7 (setRow_heap w2 (w.heap.size + 1) _ _ _ _ HX5.out)) rfl FIN.out
end Go.Proofs.YtcdmgcgjonndpaaGreatDoor
