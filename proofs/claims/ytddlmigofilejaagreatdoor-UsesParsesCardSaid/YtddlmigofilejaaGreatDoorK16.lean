/-
  Several texts in one.
-/
import Derived.Test.YtddlmigofilejaaGreatDoorK15
import Derived.Laws.AppendOwn
set_option maxRecDepth 100000
set_option maxHeartbeats 8000000
namespace Go.Proofs.YtddlmigofilejaaGreatDoor
open Go.RowKit
open M
def tokCells (t : Tok) : List Value := [.int .i64 (t.kind : Int), .int .i64 (t.place : Int), .string t.text]
def rowCells (ts : List Tok) : List Value := ts.flatMap tokCells
theorem rowCells_snoc (ts : List Tok) (t : Tok) : rowCells (ts ++ [t]) = rowCells ts ++ tokCells t := by
  unfold rowCells; simp
theorem own_below {w w' : World} {base : Nat} {e : TypeId} {size : Nat} {v : Value} {n : Nat} {xs : List Value} (h : w.ownsRow base e size v n xs) (hb : Below w.heap.size w w') : w'.ownsRow base e size v n xs := by
  refine ⟨h.1, ?_⟩;rcases h.2 with hn | ⟨g, cap, cur, rfl, hbase, hgg, rest⟩
  · exact .inl hn
  · refine .inr ⟨g, cap, cur, rfl, hbase, ?_, rest⟩
    rw [hb.block g (Array.getElem?_eq_some_iff.1 hgg).1];exact hgg
def TokPost (s : ByteArray) (w : World) (e : Ending) (w' : World) : Prop :=
  Below w.heap.size w w' /\
    ((∃ (v : Value) (ts : List Tok), fin s 0 [] = (ts, -1) /\ e = .returned (.tuple #[v, .nilIface]) /\ w'.ownsRow w.heap.size 92 3 v ts.length (rowCells ts) /\ ts.length <= s.size) \/
     (∃ k b : Nat, fin s 0 [] = ([], (k : Int)) /\ e = .returned (.tuple #[.slice none 0 0, .iface 70 (.pointer (some ⟨b, 0, none⟩))]) /\ w.heap.size <= b /\ b < w'.heap.size /\
        w'.cell? ⟨b, 0, none⟩ = some (.int .i64 k) /\ w'.cell? ⟨b, 1, none⟩ = some (.iface 31 (.int .i64 2))))
theorem infoTok : (Tryz.prog.info? 92).map (fun i => (i.zero, i.size, i.bytes)) = some (some (.agg #[.int .i64 0, .int .i64 0, .string ⟨#[]⟩]), 3, 32) := by kernel_rfl
theorem clone_any (s : ByteArray) (w : World) (hs : s.size <= 281474976710656) : Calls Tryz.prog 69 #[.string s] w fun e w' => e = .returned (.string s) /\ Below w.heap.size w w' := by
  go_enter Tryz.func69, Tryz.ntmps69
  go_wp2_with fail
  refine (Tryz.stringslite_Clone _ _ hs).mono ?_; rintro e w1 ⟨rfl, hb1⟩
  go_wp2
  go_ret;exact ⟨rfl, hb1⟩
theorem pass0 (s : ByteArray) (w : World) (hs : s.size <= 9223372036854775806) : Calls Tryz.prog 67 #[.string s, .int .i64 0] w (PassPost s 0 w) := lxpass_any s 0 w hs (by omega)
theorem pass_at (s : ByteArray) (x : Int) (i : Nat) (w : World) (hs : s.size <= 9223372036854775806) (hi : i <= s.size) (hx : x = i) : Calls Tryz.prog 67 #[.string s, .int .i64 x] w (PassPost s i w) := by
  subst hx; exact lxpass_any s i w hs hi
theorem first_tok (l : List UInt8) (k : Nat) (hk : k < l.length) (h5 : (item l k).1 ≠ 5) : ∃ z : Nat, firstK (l.drop k) = (item l k).1 /\ firstN (l.drop k) = z /\ 0 < z /\ k + z <= l.length /\ item l k = ((item l k).1, k + z) := by
  have e := item_drop l k;have g := item_gt l k h5;have q := item_le l k hk;have e1 : (item l k).1 = (item (l.drop k) 0).1 := by rw [e]
  have e2 : (item l k).2 = k + (item (l.drop k) 0).2 := by rw [e]
  refine ⟨(item (l.drop k) 0).2, ?_, ?_, by omega, by omega, ?_⟩
  · unfold firstK; rw [<- e1, if_neg h5]
  · unfold firstN; rw [<- e1, if_neg h5]
  · rw [<- e2]
theorem first_none (l : List UInt8) (k : Nat) (h5 : (item l k).1 = 5) : firstN (l.drop k) = 0 := by
  have e := item_drop l k;have e1 : (item l k).1 = (item (l.drop k) 0).1 := by rw [e]
  unfold firstN; rw [<- e1, if_pos h5]
theorem item_drop_kind (l : List UInt8) (k : Nat) (h : (item l k).1 ≠ 0) : (item (l.drop k) 0).1 ≠ 0 := by
  have e := item_drop l k;rw [e] at h; exact h
theorem tokens_any (s : ByteArray) (w : World) (hs : s.size <= 20000) : Calls Tryz.prog 33 #[.string s] w (TokPost s w) := by
  obtain ⟨i0, hi, hz0, hz1, hz2⟩ := info_parts infoTok;have hs1 : s.size <= 9223372036854775806 := by omega
  have hn : ¬ (20000 : Int) < s.size := by omega
  have LS := zH (len_size s);go_enter Tryz.func33, Tryz.ntmps33
  go_wp2_with fail
  refine (pass0 s _ hs1).mono ?_; rintro e w' ⟨k0, rfl, rfl, -, hk0, hP0, hS0⟩
  have HP0 := zH hP0;have HS0 := zH hS0;clear hP0 hS0;go_wp2
  go_loopw [4, 5] (fun v i wr => ∃ (k : Nat) (acc : List Tok), k <= s.size /\ i = .int .i64 k /\ Hid (fin s 0 [] = fin s k acc) /\ Hid (k < s.size -> (item s.data.toList k).1 ≠ 0) /\ acc.length <= k /\ wr.ownsRow w.heap.size 92 3 v acc.length (rowCells acc) /\ Below w.heap.size w wr) (fun _ i _ => s.size - (intOf i).toNat)
  case atStart => exact ⟨k0, [], hk0, rfl, zH (HP0.out []), HS0, by simp, World.ownsRow_nil _ _ _ _, Below.refl _ _⟩
  case round =>
    obtain ⟨k, acc, hk, rfl, HF, HS, hacc, hown, hb⟩ := hrel;obtain ⟨wo, rfl⟩ : ∃ wo : World, wo = wr := ⟨_, rfl⟩;by_cases hlt : k < s.size
    · have hll : k < s.data.toList.length := by rw [LS.out]; exact hlt
      have TL := zH (tail_list s k);have TZ := zH (tail_size s k);have tz0 : 0 < (s.extract k s.size).size := by rw [TZ.out]; omega
      have tz1 : (s.extract k s.size).size <= 9223372036854775806 := by rw [TZ.out]; omega
      have K0 : Hid ((item (s.extract k s.size).data.toList 0).1 ≠ 0) := zH (by rw [TL.out]; exact item_drop_kind _ _ (HS.out hlt));have H0 := zH tz0;have H1 := zH tz1;have HK := zH (HS.out hlt);clear tz0 tz1 TZ;by_cases h5 : (item s.data.toList k).1 = 5
      · have N0 : Hid (((firstN (s.data.toList.drop k) : Nat) : Int) = 0) := zH (by rw [first_none _ _ h5]; rfl)
        have RF : Hid (fin s 0 [] = ([], (k : Int))) := zH (by
          rw [HF.out];exact fin_bad acc hlt (k := (item s.data.toList k).2) (by rw [<- h5]))
        clear h5 hll;go_wp2_with fail
        refine (first_any _ _ H1.out H0.out K0.out).mono ?_; rintro e w' ⟨rfl, rfl⟩
        rw [TL.out, N0.out];go_wp2
        go_ret2
        refine ⟨?_, .inr ⟨k, _, RF.out, rfl, hb.size, by simp, by go_simp, by go_simp⟩⟩;repeat (first | exact hb | with_reducible refine Below.drew ?_ | with_reducible refine below_drewN ?_ _ | with_reducible refine below_new ?_ _)
      · obtain ⟨z, e1, e2, z0, zl, ei⟩ := first_tok _ _ hll h5
        have E1 := zH e1;have E2 := zH e2;have zl' : k + z <= s.size := by have := LS.out; omega
        have hz : ((z : Int) == 0) = false := by simp; omega
        have RF : Hid (fin s 0 [] = fin s (k + z) (acc ++ [⟨(item s.data.toList k).1, k, s.extract k (k + z)⟩])) := zH (by
          rw [HF.out];exact fin_tok acc hlt ei HK.out h5)
        have PZ : Hid ((s.extract k (k + z)).size <= 281474976710656) := zH (by simp; omega);generalize hc : (item s.data.toList k).1 = c at E1 RF
        clear e1 e2 ei h5 hll zl hc;go_wp2_with fail
        refine (first_any _ _ H1.out H0.out K0.out).mono ?_; rintro e w' ⟨rfl, rfl⟩
        rw [TL.out, E1.out, E2.out];go_wp2_with fail
        refine (clone_any _ _ (by simpa using PZ.out)).mono ?_; rintro e w2 ⟨rfl, hb2⟩
        have hown2 := own_below hown hb2;have hbb := below_over hb hb2;have hp32 : ((acc.length + 1) * 32 <= 140737488355328) := by omega
        go_wp2_with (at_builtin; refine wpList_append_own _ rfl _ _ 61 rfl w.heap.size 92 i0 (.agg #[.int .i64 0, .int .i64 0, .string ⟨#[]⟩]) 3 32 Tryz.underlying61 hi hz0 hz1 hz2 rfl (by decide) _ _ _ rfl (hown2.alloc _) ⟨w2.heap.size, 0, none⟩ 1 1 (tokCells ⟨c, k, s.extract k (k + z)⟩) rfl rfl ?c1 ?c2 ?c3 ?c4 ?c5 ?_)
        case c1 =>
          intro j u hj;match j, hj with
          | 0, hj => simp [tokCells] at hj; subst hj; go_simp
          | 1, hj => simp [tokCells] at hj; subst hj; simp [Addr.add]
          | 2, hj => simp [tokCells] at hj; subst hj; simp [Addr.add]
        case c2 => intro u hu; simp [tokCells] at hu; rcases hu with rfl | rfl | rfl <;> rfl
        case c3 => unfold maxLen; omega
        case c4 => exact hp32
        case c5 => have := hbb.size; simp; omega
        intro v3 w3 hown3 hg3 _;have hb3 : Below w.heap.size w w3 := (below_new hbb _).grown hg3 (by have := hbb.size; simp; omega) (fun q hq => (hown2.lt q hq).1)
        have hown4 : Hid (w3.ownsRow w.heap.size 92 3 v3 (acc ++ [(⟨c, k, s.extract k (k + z)⟩ : Tok)]).length (rowCells (acc ++ [⟨c, k, s.extract k (k + z)⟩]))) := zH (by
          rw [rowCells_snoc, List.length_append]; exact hown3)
        clear hown hown2 hown3 hg3 hb hb2 hbb hp32;go_wp2_with (go_at_call 67; refine (pass_at s _ (k + z) _ hs1 zl' (by simp)).mono ?_; rintro e w' ⟨k2, rfl, rfl, hk2a, hk2b, hP2, hS2⟩; have HP2 := zH hP2; have HS2 := zH hS2; clear hP2 hS2)
        go_roundw
        case rel => exact ⟨k2, _, hk2b, rfl, zH (RF.out.trans (HP2.out _)), HS2, by simp; omega, hown4.out, hb3⟩
        case measure => simp [intOf]; omega
    · have hk' : s.size <= k := by omega
      have RF : Hid (fin s 0 [] = (acc, -1)) := zH (by rw [HF.out]; exact fin_end s k acc hk');go_wp2
      go_ret2
      exact ⟨hb, .inl ⟨_, acc, RF.out, rfl, hown, by omega⟩⟩
def RowAt (w : World) (A : Option Addr) (ts : List Tok) : Prop :=
  ∀ i t, ts[i]? = some t -> ∃ g, A = some ⟨g, 0, none⟩ /\ g < w.heap.size /\ w.cell? ⟨g, i * 3, none⟩ = some (.int .i64 (t.kind : Int)) /\ w.cell? ⟨g, i * 3 + 1, none⟩ = some (.int .i64 (t.place : Int)) /\ w.cell? ⟨g, i * 3 + 2, none⟩ = some (.string t.text)
theorem rowCells_at (ts : List Tok) (i j : Nat) (t : Tok) (h : ts[i]? = some t) (hj : j < 3) : (rowCells ts)[i * 3 + j]? = (tokCells t)[j]? := by
  unfold rowCells
  induction ts generalizing i with
  | nil => simp at h
  | cons a r ih =>
    rw [List.flatMap_cons];rcases i with _ | i
    · simp at h; subst h
      rw [List.getElem?_append_left (by simp [tokCells]; omega)];simp
    · rw [List.getElem?_append_right (by simp [tokCells]; omega)]
      have : (i + 1) * 3 + j - (tokCells a).length = i * 3 + j := by simp [tokCells]; omega
      rw [this];exact ih i (by simpa using h)
theorem own_rowAt {w : World} {base : Nat} {v : Value} {ts : List Tok} (h : w.ownsRow base 92 3 v ts.length (rowCells ts)) : ∃ A c, v = .slice A ts.length c /\ RowAt w A ts := by
  rcases h.2 with ⟨rfl, hn⟩ | ⟨g, cap, cur, rfl, hb, hg, hrest⟩
  · have hts : ts = [] := List.eq_nil_of_length_eq_zero hn
    subst hts;exact ⟨none, 0, rfl, fun i t ht => by simp at ht⟩
  · refine ⟨some ⟨g, 0, none⟩, cap, rfl, fun i t ht => ⟨g, rfl, (Array.getElem?_eq_some_iff.1 hg).1, ?_, ?_, ?_⟩⟩
    all_goals
      have hc := h.cells (g := g) rfl;have hadd : ∀ j, (⟨g, 0, none⟩ : Addr).add j = ⟨g, j, none⟩ := fun j => by unfold Addr.add; split <;> simp_all
    · have := hc (i * 3) (.int .i64 (t.kind : Int)) ((rowCells_at ts i 0 t ht (by omega)).trans rfl)
      rwa [hadd] at this
    · have := hc (i * 3 + 1) (.int .i64 (t.place : Int)) ((rowCells_at ts i 1 t ht (by omega)).trans rfl)
      rwa [hadd] at this
    · have := hc (i * 3 + 2) (.string t.text) ((rowCells_at ts i 2 t ht (by omega)).trans rfl)
      rwa [hadd] at this
theorem tokens_yes (s : ByteArray) (ts : List Tok) (w : World) (hs : s.size <= 20000) (h : fin s 0 [] = (ts, -1)) :
    Calls Tryz.prog 33 #[.string s] w fun e w' => ∃ A c, e = .returned (.tuple #[.slice A ts.length c, .nilIface]) /\ ts.length <= 20000 /\ RowAt w' A ts /\ Below w.heap.size w w' := by
  refine (tokens_any s w hs).mono ?_;rintro e w' ⟨hb, ⟨v, ts', hf, rfl, hown, hl⟩ | ⟨k, b, hf, -⟩⟩
  · rw [h] at hf
    obtain rfl : ts = ts' := (Prod.mk.inj hf).1;obtain ⟨A, c, rfl, hr⟩ := own_rowAt hown;exact ⟨A, c, rfl, by omega, hr, hb⟩
  · rw [h] at hf
    have := (Prod.mk.inj hf).2
    omega
theorem tokens_no (s : ByteArray) (k : Nat) (w : World) (hs : s.size <= 20000) (h : fin s 0 [] = ([], (k : Int))) :
    Calls Tryz.prog 33 #[.string s] w fun e w' => ∃ b, e = .returned (.tuple #[.slice none 0 0, .iface 70 (.pointer (some ⟨b, 0, none⟩))]) /\ w.heap.size <= b /\ b < w'.heap.size /\
        w'.cell? ⟨b, 0, none⟩ = some (.int .i64 k) /\ w'.cell? ⟨b, 1, none⟩ = some (.iface 31 (.int .i64 2)) /\ Below w.heap.size w w' := by
  refine (tokens_any s w hs).mono ?_;rintro e w' ⟨hb, ⟨v, ts', hf, -⟩ | ⟨k', b, hf, rfl, h1, h2, h3, h4⟩⟩
  · rw [h] at hf
    have := (Prod.mk.inj hf).2
    omega
  · rw [h] at hf
    have : (k : Int) = k' := (Prod.mk.inj hf).2
    obtain rfl : k = k' := by omega
    exact ⟨b, rfl, h1, h2, h3, h4, hb⟩
theorem tokens_large (s : ByteArray) (w : World) (hs : 20000 < s.size) :
    Calls Tryz.prog 33 #[.string s] w fun e w' => e = .returned (.tuple #[.slice none 0 0, .iface 31 (.int .i64 3)]) /\ w = w' := by
  have hn : (20000 : Int) < s.size := by omega
  go_enter Tryz.func33, Tryz.ntmps33
  go_wp2
  go_ret2
  exact ⟨rfl, rfl⟩
theorem letter_raw (n : Int) (w : World) : Calls Tryz.prog 38 #[.int .u8 n] w fun e w' => e = .returned (.bool (lowC n || upC n)) /\ w = w' := by
 go_enter Tryz.func38, Tryz.ntmps38
 go_wp2
 all_goals go_ret
 all_goals exact ⟨ret_bool (by unfold lowC upC; rw [Bool.eq_iff_iff]; simp_all <;> omega), rfl⟩
theorem letterR (n : Int) (b : Bool) (w : World) (h : (lowC n || upC n) = b) : Calls Tryz.prog 38 #[.int .u8 n] w fun e w' => e = .returned (.bool b) /\ w = w' := by
 subst h; exact letter_raw n w
theorem digit_raw (n : Int) (w : World) : Calls Tryz.prog 39 #[.int .u8 n] w fun e w' => e = .returned (.bool (digC n)) /\ w = w' := by
 go_enter Tryz.func39, Tryz.ntmps39
 go_wp2
 all_goals go_ret
 all_goals exact ⟨ret_bool (by unfold digC; simp_all; try omega), rfl⟩
theorem digitR (n : Int) (b : Bool) (w : World) (h : digC n = b) : Calls Tryz.prog 39 #[.int .u8 n] w fun e w' => e = .returned (.bool b) /\ w = w' := by
 subst h; exact digit_raw n w
def RefPost (s : ByteArray) (w : World) (e : Ending) (w' : World) : Prop :=
  Below w.heap.size w w' /\
    ((∃ (v : Value) (ts : List Tok), fin s 0 [] = (ts, -1) /\ e = .returned (.tuple #[v, .int .i64 (-1)]) /\ w'.ownsRow w.heap.size 92 3 v ts.length (rowCells ts) /\ ts.length <= s.size) \/
     (∃ k : Nat, fin s 0 [] = ([], (k : Int)) /\ e = .returned (.tuple #[.slice none 0 0, .int .i64 k])))
theorem item_rest (l : List UInt8) (k : Nat) (x : Int) (e : bt l k = x) (h1 : x ≠ 32) (h2 : x ≠ 9) (h3 : x ≠ 10) (h4 : x ≠ 35) : item l k =
  if lowC (bt l k) = true then (1, stop anyC l (k + 1))
  else if upC (bt l k) = true then (2, stop anyC l (k + 1))
  else if digC (bt l k) = true then (3, stop digC l (k + 1))
  else if twoC (bt l k) (bt l (k + 1)) = true then (4, k + 2)
  else if signC (bt l k) = true then (4, k + 1)
  else (5, k) := by
 subst e
 unfold item
 rw [if_neg (by unfold blankC; simp [h1, h2, h3]), if_neg h4]
theorem refTokens_any (s : ByteArray) (w : World) (hs : s.size <= 20000) : Calls Tryz.prog 18 #[.string s] w (RefPost s w) := by
 obtain ⟨i0, hi, hz0, hz1, hz2⟩ := info_parts infoTok
 have LS := zH (len_size s)
 go_enter Tryz.func18, Tryz.ntmps18
 go_wp2
 go_loopw [4, 5] (fun v i wr => ∃ (k : Nat) (acc : List Tok), k <= s.size /\ i = .int .i64 k /\ Hid (fin s 0 [] = fin s k acc) /\ acc.length <= k /\ wr.ownsRow w.heap.size 92 3 v acc.length (rowCells acc) /\ Below w.heap.size w wr) (fun _ i _ => s.size - (intOf i).toNat)
 case atStart => exact ⟨0, [], by omega, rfl, zH rfl, by simp, World.ownsRow_nil _ _ _ _, Below.refl _ _⟩
 case round =>
  obtain ⟨k, acc, hk, rfl, HF, hacc, hown, hb'⟩ := hrel;obtain ⟨wo, rfl⟩ : ∃ wo : World, wo = wr := ⟨_, rfl⟩;by_cases hlt : k < s.size
  ·have XK := zH (bt_eq s k hlt)
   go_upto_block 2 with fail
   go_cut [7, 8] (fun s7 s8 wx => ∃ c k' : Nat, s7 = .int .i64 k' /\ s8 = .int .i64 c /\ Hid (item s.data.toList k = (c, k')) /\ c ≠ 5 /\ k + 1 <= k' /\ k' <= s.size /\ wo = wx)
   case first =>
    by_cases hb : (s[k].toNat : Int) = 32 \/ (s[k].toNat : Int) = 9 \/ (s[k].toNat : Int) = 10
    ·have R := zH (item_blank s.data.toList k _ XK.out.symm hb)
     rcases hb with hx | hx | hx
     ·as_aux_lemma =>
      have a32 : ((s[k].toNat : Int) == 32) = true := by rw [hx]; rfl
      clear hx;go_wp2
      go_meet
      exact ⟨0, k + 1, by go_num, rfl, R, by decide, by omega, by omega, rfl⟩
     ·as_aux_lemma =>
      have a32 : ((s[k].toNat : Int) == 32) = false := by rw [hx]; rfl
      have a9 : ((s[k].toNat : Int) == 9) = true := by rw [hx]; rfl
      clear hx;go_wp2
      go_meet
      exact ⟨0, k + 1, by go_num, rfl, R, by decide, by omega, by omega, rfl⟩
     ·as_aux_lemma =>
      have a32 : ((s[k].toNat : Int) == 32) = false := by rw [hx]; rfl
      have a9 : ((s[k].toNat : Int) == 9) = false := by rw [hx]; rfl
      have a10 : ((s[k].toNat : Int) == 10) = true := by rw [hx]; rfl
      clear hx;go_wp2
      go_meet
      exact ⟨0, k + 1, by go_num, rfl, R, by decide, by omega, by omega, rfl⟩
    have n1 : (s[k].toNat : Int) ≠ 32 := fun e => hb (.inl e)
    have n2 : (s[k].toNat : Int) ≠ 9 := fun e => hb (.inr (.inl e))
    have n3 : (s[k].toNat : Int) ≠ 10 := fun e => hb (.inr (.inr e))
    clear hb;have a32 : ((s[k].toNat : Int) == 32) = false := by simpa using n1
    have a9 : ((s[k].toNat : Int) == 9) = false := by simpa using n2
    have a10 : ((s[k].toNat : Int) == 10) = false := by simpa using n3
    by_cases hx : (s[k].toNat : Int) = 35
    ·as_aux_lemma =>
     have I : Hid (item s.data.toList k = (0, stop lineC s.data.toList (k + 1))) := zH (item_rem _ _ (XK.out.symm.trans hx));have a35 : ((s[k].toNat : Int) == 35) = true := by rw [hx]; rfl
     clear hx n1 n2 n3;go_wp2_with fail
     go_loop [7] (fun kv => ∃ j : Nat, k + 1 <= j /\ j <= s.size /\ kv = .int .i64 j /\ Hid (∀ q, k + 1 <= q -> q < j -> lineC (bt s.data.toList q) = true)) (fun kv => s.size - (intOf kv).toNat)
     case atStart => exact ⟨k + 1, by omega, by omega, by go_num, zH (fun q a b => by omega)⟩
     case round =>
      obtain ⟨j, hj1, hj2, rfl, HQ⟩ := hrel;by_cases hlj : j < s.size
      ·have YB := zH (bt_eq s j hlj)
       rcases hid_or ((s[j].toNat : Int) == 10) with D | D
       ·have G : Hid (lineC (bt s.data.toList j) = true) := zH (by unfold lineC; rw [<- YB.out, D.out]; rfl)
        have d := D.out;go_wp2
        go_round
        case rel => exact ⟨j + 1, by omega, by omega, by go_num, zH (upto_step (P := fun q => lineC (bt s.data.toList q)) HQ.out G.out)⟩
        case measure => simp [intOf]; omega
       ·have G : Hid (lineC (bt s.data.toList j) = false) := zH (by unfold lineC; rw [<- YB.out, D.out]; rfl)
        have d := D.out;have R : Hid (stop lineC s.data.toList (k + 1) = j) := zH (stop_eq _ _ _ _ hj1 (by rw [LS.out]; exact hj2) HQ.out (.inr G.out));go_wp2
        go_meet
        exact ⟨0, j, rfl, rfl, zH (by rw [I.out, R.out]), by decide, hj1, hj2, rfl⟩
      ·have R : Hid (stop lineC s.data.toList (k + 1) = j) := zH (stop_eq _ _ _ _ hj1 (by rw [LS.out]; exact hj2) HQ.out (.inl (by rw [LS.out]; omega)))
       go_wp2
       go_meet
       exact ⟨0, j, rfl, rfl, zH (by rw [I.out, R.out]), by decide, hj1, hj2, rfl⟩
    have a35 : ((s[k].toNat : Int) == 35) = false := by simpa using hx
    have XN := zH (item_rest s.data.toList k _ XK.out.symm n1 n2 n3 hx);clear n1 n2 n3 hx;rcases hid_or (lowC (bt s.data.toList k)) with L | L
    rotate_left
    ·as_aux_lemma =>
     have I : Hid (item s.data.toList k = (1, stop anyC s.data.toList (k + 1))) := zH (by rw [XN.out, if_pos L.out]);have g90 : ¬ (s[k].toNat : Int) <= 90 := by rw [XK.out]; have := L.out; unfold lowC at this; simp at this; omega
     have LU : Hid ((lowC (bt s.data.toList k) || upC (bt s.data.toList k)) = true) := zH (by rw [L.out]; rfl);go_wp2_with (go_at_call 38; refine (letterR _ true _ (by rw [XK.out]; exact LU.out)).mono ?_; rintro e w' ⟨rfl, rfl⟩)
     go_loop [7] (fun kv => ∃ j : Nat, k + 1 <= j /\ j <= s.size /\ kv = .int .i64 j /\ Hid (∀ q, k + 1 <= q -> q < j -> anyC (bt s.data.toList q) = true)) (fun kv => s.size - (intOf kv).toNat)
     case atStart => exact ⟨k + 1, by omega, by omega, by go_num, zH (fun q a b => by omega)⟩
     case round =>
      obtain ⟨j, hj1, hj2, rfl, HQ⟩ := hrel;by_cases hlj : j < s.size
      ·have YB := zH (bt_eq s j hlj)
       have YB' := YB.out
       rcases hid_or (lowC (bt s.data.toList j) || upC (bt s.data.toList j)) with L | L
       ·rcases hid_or (digC (bt s.data.toList j)) with D | D
        ·have G : Hid (anyC (bt s.data.toList j) = false) := zH (by unfold anyC; rw [L.out, D.out]; rfl)
         have R : Hid (stop anyC s.data.toList (k + 1) = j) := zH (stop_eq _ _ _ _ hj1 (by rw [LS.out]; exact hj2) HQ.out (.inr G.out));clear YB';go_wp2_with (first | (go_at_call 38; refine (letterR _ false _ (by rw [YB.out]; exact L.out)).mono ?_; rintro e w' ⟨rfl, rfl⟩) | (go_at_call 39; refine (digitR _ false _ (by rw [YB.out]; exact D.out)).mono ?_; rintro e w' ⟨rfl, rfl⟩))
         go_meet
         exact ⟨1, j, rfl, rfl, zH (by rw [I.out, R.out]), by decide, hj1, hj2, rfl⟩
        ·have G : Hid (anyC (bt s.data.toList j) = true) := zH (by unfold anyC; rw [D.out]; simp)
         clear YB';go_wp2_with (first | (go_at_call 38; refine (letterR _ false _ (by rw [YB.out]; exact L.out)).mono ?_; rintro e w' ⟨rfl, rfl⟩) | (go_at_call 39; refine (digitR _ true _ (by rw [YB.out]; exact D.out)).mono ?_; rintro e w' ⟨rfl, rfl⟩))
         go_round
         case rel => exact ⟨j + 1, by omega, by omega, by go_num, zH (upto_step (P := fun q => anyC (bt s.data.toList q)) HQ.out G.out)⟩
         case measure => simp [intOf]; omega
       ·have G : Hid (anyC (bt s.data.toList j) = true) := zH (by unfold anyC; rw [L.out]; rfl)
        clear YB';go_wp2_with (go_at_call 38; refine (letterR _ true _ (by rw [YB.out]; exact L.out)).mono ?_; rintro e w' ⟨rfl, rfl⟩)
        go_round
        case rel => exact ⟨j + 1, by omega, by omega, by go_num, zH (upto_step (P := fun q => anyC (bt s.data.toList q)) HQ.out G.out)⟩
        case measure => simp [intOf]; omega
      ·have R : Hid (stop anyC s.data.toList (k + 1) = j) := zH (stop_eq _ _ _ _ hj1 (by rw [LS.out]; exact hj2) HQ.out (.inl (by rw [LS.out]; omega)))
       go_wp2
       go_meet
       exact ⟨1, j, rfl, rfl, zH (by rw [I.out, R.out]), by decide, hj1, hj2, rfl⟩
    have XL : Hid (_) := zH (XN.out.trans (if_neg (by rw [L.out]; decide)));clear XN;rcases hid_or (upC (bt s.data.toList k)) with U | U
    rotate_left
    ·as_aux_lemma =>
     have I : Hid (item s.data.toList k = (2, stop anyC s.data.toList (k + 1))) := zH (by rw [XL.out, if_pos U.out]);have g90 : (s[k].toNat : Int) <= 90 := by rw [XK.out]; have := U.out; unfold upC at this; simp at this; omega
     have LU : Hid ((lowC (bt s.data.toList k) || upC (bt s.data.toList k)) = true) := zH (by rw [L.out, U.out]; rfl);go_wp2_with (go_at_call 38; refine (letterR _ true _ (by rw [XK.out]; exact LU.out)).mono ?_; rintro e w' ⟨rfl, rfl⟩)
     go_loop [7] (fun kv => ∃ j : Nat, k + 1 <= j /\ j <= s.size /\ kv = .int .i64 j /\ Hid (∀ q, k + 1 <= q -> q < j -> anyC (bt s.data.toList q) = true)) (fun kv => s.size - (intOf kv).toNat)
     case atStart => exact ⟨k + 1, by omega, by omega, by go_num, zH (fun q a b => by omega)⟩
     case round =>
      obtain ⟨j, hj1, hj2, rfl, HQ⟩ := hrel;by_cases hlj : j < s.size
      ·have YB := zH (bt_eq s j hlj)
       have YB' := YB.out
       rcases hid_or (lowC (bt s.data.toList j) || upC (bt s.data.toList j)) with L | L
       ·rcases hid_or (digC (bt s.data.toList j)) with D | D
        ·have G : Hid (anyC (bt s.data.toList j) = false) := zH (by unfold anyC; rw [L.out, D.out]; rfl)
         have R : Hid (stop anyC s.data.toList (k + 1) = j) := zH (stop_eq _ _ _ _ hj1 (by rw [LS.out]; exact hj2) HQ.out (.inr G.out));clear YB';go_wp2_with (first | (go_at_call 38; refine (letterR _ false _ (by rw [YB.out]; exact L.out)).mono ?_; rintro e w' ⟨rfl, rfl⟩) | (go_at_call 39; refine (digitR _ false _ (by rw [YB.out]; exact D.out)).mono ?_; rintro e w' ⟨rfl, rfl⟩))
         go_meet
         exact ⟨2, j, rfl, rfl, zH (by rw [I.out, R.out]), by decide, hj1, hj2, rfl⟩
        ·have G : Hid (anyC (bt s.data.toList j) = true) := zH (by unfold anyC; rw [D.out]; simp)
         clear YB';go_wp2_with (first | (go_at_call 38; refine (letterR _ false _ (by rw [YB.out]; exact L.out)).mono ?_; rintro e w' ⟨rfl, rfl⟩) | (go_at_call 39; refine (digitR _ true _ (by rw [YB.out]; exact D.out)).mono ?_; rintro e w' ⟨rfl, rfl⟩))
         go_round
         case rel => exact ⟨j + 1, by omega, by omega, by go_num, zH (upto_step (P := fun q => anyC (bt s.data.toList q)) HQ.out G.out)⟩
         case measure => simp [intOf]; omega
       ·have G : Hid (anyC (bt s.data.toList j) = true) := zH (by unfold anyC; rw [L.out]; rfl)
        clear YB';go_wp2_with (go_at_call 38; refine (letterR _ true _ (by rw [YB.out]; exact L.out)).mono ?_; rintro e w' ⟨rfl, rfl⟩)
        go_round
        case rel => exact ⟨j + 1, by omega, by omega, by go_num, zH (upto_step (P := fun q => anyC (bt s.data.toList q)) HQ.out G.out)⟩
        case measure => simp [intOf]; omega
      ·have R : Hid (stop anyC s.data.toList (k + 1) = j) := zH (stop_eq _ _ _ _ hj1 (by rw [LS.out]; exact hj2) HQ.out (.inl (by rw [LS.out]; omega)))
       go_wp2
       go_meet
       exact ⟨2, j, rfl, rfl, zH (by rw [I.out, R.out]), by decide, hj1, hj2, rfl⟩
    have XU : Hid (_) := zH (XL.out.trans (if_neg (by rw [U.out]; decide)));clear XL;have LU : Hid ((lowC (bt s.data.toList k) || upC (bt s.data.toList k)) = false) := zH (by rw [L.out, U.out]; rfl);rcases hid_or (digC (bt s.data.toList k)) with D | D
    rotate_left
    ·as_aux_lemma =>
     have I : Hid (item s.data.toList k = (3, stop digC s.data.toList (k + 1))) := zH (by rw [XU.out, if_pos D.out]);go_wp2_with (first | (go_at_call 38; refine (letterR _ false _ (by rw [XK.out]; exact LU.out)).mono ?_; rintro e w' ⟨rfl, rfl⟩) | (go_at_call 39; refine (digitR _ true _ (by rw [XK.out]; exact D.out)).mono ?_; rintro e w' ⟨rfl, rfl⟩))
     go_loop [7] (fun kv => ∃ j : Nat, k + 1 <= j /\ j <= s.size /\ kv = .int .i64 j /\ Hid (∀ q, k + 1 <= q -> q < j -> digC (bt s.data.toList q) = true)) (fun kv => s.size - (intOf kv).toNat)
     case atStart => exact ⟨k + 1, by omega, by omega, by go_num, zH (fun q a b => by omega)⟩
     case round =>
      obtain ⟨j, hj1, hj2, rfl, HQ⟩ := hrel;by_cases hlj : j < s.size
      ·have YB := zH (bt_eq s j hlj)
       rcases hid_or (digC (bt s.data.toList j)) with D | D
       ·have R : Hid (stop digC s.data.toList (k + 1) = j) := zH (stop_eq _ _ _ _ hj1 (by rw [LS.out]; exact hj2) HQ.out (.inr D.out))
        go_wp2_with (go_at_call 39; refine (digitR _ false _ (by rw [YB.out]; exact D.out)).mono ?_; rintro e w' ⟨rfl, rfl⟩)
        go_meet
        exact ⟨3, j, rfl, rfl, zH (by rw [I.out, R.out]), by decide, hj1, hj2, rfl⟩
       ·go_wp2_with (go_at_call 39; refine (digitR _ true _ (by rw [YB.out]; exact D.out)).mono ?_; rintro e w' ⟨rfl, rfl⟩)
        go_round
        case rel => exact ⟨j + 1, by omega, by omega, by go_num, zH (upto_step (P := fun q => digC (bt s.data.toList q)) HQ.out D.out)⟩
        case measure => simp [intOf]; omega
      ·have R : Hid (stop digC s.data.toList (k + 1) = j) := zH (stop_eq _ _ _ _ hj1 (by rw [LS.out]; exact hj2) HQ.out (.inl (by rw [LS.out]; omega)))
       go_wp2
       go_meet
       exact ⟨3, j, rfl, rfl, zH (by rw [I.out, R.out]), by decide, hj1, hj2, rfl⟩
    have XD : Hid (_) := zH (XU.out.trans (if_neg (by rw [D.out]; decide)));clear XU;by_cases hx : (s[k].toNat : Int) = 45
    ·as_aux_lemma =>
     have a45 : ((s[k].toNat : Int) == 45) = true := by rw [hx]; rfl
     have a46 : ((s[k].toNat : Int) == 46) = false := by rw [hx]; rfl
     by_cases hl2 : k + 1 < s.size
     ·have hl2' : (↑k : Int) + 1 < ↑s.size := by omega
      have YB := zH (bt_eq s (k + 1) hl2);rcases hid_or ((s[k + 1].toNat : Int) == 62) with Y | Y
      ·have TW : twoC (bt s.data.toList k) (bt s.data.toList (k + 1)) = false := by
        unfold twoC; rw [<- XK.out, <- YB.out, hx, Y.out]; rfl
       have I : item s.data.toList k = (5, k) := by
        rw [XD.out, if_neg (by rw [TW]; decide), if_neg (by rw [<- XK.out, hx]; decide)]
       have RF : Hid (fin s 0 [] = ([], (k : Int))) := zH (by rw [HF.out]; exact fin_bad acc hlt I);have y := Y.out;clear hx TW;go_wp2_with (first | (go_at_call 38; refine (letterR _ false _ (by rw [XK.out]; exact LU.out)).mono ?_; rintro e w' ⟨rfl, rfl⟩) | (go_at_call 39; refine (digitR _ false _ (by rw [XK.out]; exact D.out)).mono ?_; rintro e w' ⟨rfl, rfl⟩))
       go_ret2
       exact ⟨hb', .inr ⟨k, RF.out, rfl⟩⟩
      ·have TW : twoC (bt s.data.toList k) (bt s.data.toList (k + 1)) = true := by
        unfold twoC; rw [<- XK.out, <- YB.out, hx, Y.out]; rfl
       have I : Hid (item s.data.toList k = (4, k + 2)) := zH (by rw [XD.out, if_pos TW]);have y := Y.out;clear hx TW;go_wp2_with (first | (go_at_call 38; refine (letterR _ false _ (by rw [XK.out]; exact LU.out)).mono ?_; rintro e w' ⟨rfl, rfl⟩) | (go_at_call 39; refine (digitR _ false _ (by rw [XK.out]; exact D.out)).mono ?_; rintro e w' ⟨rfl, rfl⟩))
       go_meet
       exact ⟨4, k + 2, by go_num, rfl, I, by decide, by omega, by omega, rfl⟩
     ·have hl2' : ¬ (↑k : Int) + 1 < ↑s.size := by omega
      have TW : twoC (bt s.data.toList k) (bt s.data.toList (k + 1)) = false := by
       unfold twoC; rw [bt_past s.data.toList (k + 1) (by rw [LS.out]; omega), <- XK.out, hx]; rfl
      have I : item s.data.toList k = (5, k) := by
       rw [XD.out, if_neg (by rw [TW]; decide), if_neg (by rw [<- XK.out, hx]; decide)]
      have RF : Hid (fin s 0 [] = ([], (k : Int))) := zH (by rw [HF.out]; exact fin_bad acc hlt I);clear hx TW;go_wp2_with (first | (go_at_call 38; refine (letterR _ false _ (by rw [XK.out]; exact LU.out)).mono ?_; rintro e w' ⟨rfl, rfl⟩) | (go_at_call 39; refine (digitR _ false _ (by rw [XK.out]; exact D.out)).mono ?_; rintro e w' ⟨rfl, rfl⟩))
      go_ret2
      exact ⟨hb', .inr ⟨k, RF.out, rfl⟩⟩
    by_cases hx' : (s[k].toNat : Int) = 46
    ·as_aux_lemma =>
     have hx := hx';clear hx';have a45 : ((s[k].toNat : Int) == 45) = false := by rw [hx]; rfl
     have a46 : ((s[k].toNat : Int) == 46) = true := by rw [hx]; rfl
     by_cases hl2 : k + 1 < s.size
     ·have hl2' : (↑k : Int) + 1 < ↑s.size := by omega
      have YB := zH (bt_eq s (k + 1) hl2);rcases hid_or ((s[k + 1].toNat : Int) == 46) with Y | Y
      ·have TW : twoC (bt s.data.toList k) (bt s.data.toList (k + 1)) = false := by
        unfold twoC; rw [<- XK.out, <- YB.out, hx, Y.out]; rfl
       have I : Hid (item s.data.toList k = (4, k + 1)) := zH (by
        rw [XD.out, if_neg (by rw [TW]; decide), if_pos (by rw [<- XK.out, hx]; decide)])
       have y := Y.out;clear hx TW;go_wp2_with (first | (go_at_call 38; refine (letterR _ false _ (by rw [XK.out]; exact LU.out)).mono ?_; rintro e w' ⟨rfl, rfl⟩) | (go_at_call 39; refine (digitR _ false _ (by rw [XK.out]; exact D.out)).mono ?_; rintro e w' ⟨rfl, rfl⟩))
       go_meet
       exact ⟨4, k + 1, by go_num, rfl, I, by decide, by omega, by omega, rfl⟩
      ·have TW : twoC (bt s.data.toList k) (bt s.data.toList (k + 1)) = true := by
        unfold twoC; rw [<- XK.out, <- YB.out, hx, Y.out]; rfl
       have I : Hid (item s.data.toList k = (4, k + 2)) := zH (by rw [XD.out, if_pos TW]);have y := Y.out;clear hx TW;go_wp2_with (first | (go_at_call 38; refine (letterR _ false _ (by rw [XK.out]; exact LU.out)).mono ?_; rintro e w' ⟨rfl, rfl⟩) | (go_at_call 39; refine (digitR _ false _ (by rw [XK.out]; exact D.out)).mono ?_; rintro e w' ⟨rfl, rfl⟩))
       go_meet
       exact ⟨4, k + 2, by go_num, rfl, I, by decide, by omega, by omega, rfl⟩
     ·have hl2' : ¬ (↑k : Int) + 1 < ↑s.size := by omega
      have TW : twoC (bt s.data.toList k) (bt s.data.toList (k + 1)) = false := by
       unfold twoC; rw [bt_past s.data.toList (k + 1) (by rw [LS.out]; omega), <- XK.out, hx]; rfl
      have I : Hid (item s.data.toList k = (4, k + 1)) := zH (by
       rw [XD.out, if_neg (by rw [TW]; decide), if_pos (by rw [<- XK.out, hx]; decide)])
      clear hx TW;go_wp2_with (first | (go_at_call 38; refine (letterR _ false _ (by rw [XK.out]; exact LU.out)).mono ?_; rintro e w' ⟨rfl, rfl⟩) | (go_at_call 39; refine (digitR _ false _ (by rw [XK.out]; exact D.out)).mono ?_; rintro e w' ⟨rfl, rfl⟩))
      go_meet
      exact ⟨4, k + 1, by go_num, rfl, I, by decide, by omega, by omega, rfl⟩
    have a45 : ((s[k].toNat : Int) == 45) = false := by simpa using hx
    have a46 : ((s[k].toNat : Int) == 46) = false := by simpa using hx'
    have TW : twoC (bt s.data.toList k) (bt s.data.toList (k + 1)) = false := by
     unfold twoC; rw [<- XK.out, a45, a46]; rfl
    have XT : Hid (_) := zH (XD.out.trans (if_neg (by rw [TW]; decide)));clear XD TW hx hx';by_cases hx : (s[k].toNat : Int) = 123
    ·as_aux_lemma =>
     have I : Hid (item s.data.toList k = (4, k + 1)) := zH (by rw [XT.out, if_pos (by rw [<- XK.out, hx]; decide)]);have a123 : ((s[k].toNat : Int) == 123) = true := by rw [hx]; rfl
     clear hx;go_wp2_with (first | (go_at_call 38; refine (letterR _ false _ (by rw [XK.out]; exact LU.out)).mono ?_; rintro e w' ⟨rfl, rfl⟩) | (go_at_call 39; refine (digitR _ false _ (by rw [XK.out]; exact D.out)).mono ?_; rintro e w' ⟨rfl, rfl⟩))
     go_meet
     exact ⟨4, k + 1, by go_num, rfl, I, by decide, by omega, by omega, rfl⟩
    have a123 : ((s[k].toNat : Int) == 123) = false := by simpa using hx
    clear hx;by_cases hx : (s[k].toNat : Int) = 125
    ·as_aux_lemma =>
     have I : Hid (item s.data.toList k = (4, k + 1)) := zH (by rw [XT.out, if_pos (by rw [<- XK.out, hx]; decide)]);have a125 : ((s[k].toNat : Int) == 125) = true := by rw [hx]; rfl
     clear hx;go_wp2_with (first | (go_at_call 38; refine (letterR _ false _ (by rw [XK.out]; exact LU.out)).mono ?_; rintro e w' ⟨rfl, rfl⟩) | (go_at_call 39; refine (digitR _ false _ (by rw [XK.out]; exact D.out)).mono ?_; rintro e w' ⟨rfl, rfl⟩))
     go_meet
     exact ⟨4, k + 1, by go_num, rfl, I, by decide, by omega, by omega, rfl⟩
    have a125 : ((s[k].toNat : Int) == 125) = false := by simpa using hx
    clear hx;by_cases hx : (s[k].toNat : Int) = 40
    ·as_aux_lemma =>
     have I : Hid (item s.data.toList k = (4, k + 1)) := zH (by rw [XT.out, if_pos (by rw [<- XK.out, hx]; decide)]);have a40 : ((s[k].toNat : Int) == 40) = true := by rw [hx]; rfl
     clear hx;go_wp2_with (first | (go_at_call 38; refine (letterR _ false _ (by rw [XK.out]; exact LU.out)).mono ?_; rintro e w' ⟨rfl, rfl⟩) | (go_at_call 39; refine (digitR _ false _ (by rw [XK.out]; exact D.out)).mono ?_; rintro e w' ⟨rfl, rfl⟩))
     go_meet
     exact ⟨4, k + 1, by go_num, rfl, I, by decide, by omega, by omega, rfl⟩
    have a40 : ((s[k].toNat : Int) == 40) = false := by simpa using hx
    clear hx;by_cases hx : (s[k].toNat : Int) = 41
    ·as_aux_lemma =>
     have I : Hid (item s.data.toList k = (4, k + 1)) := zH (by rw [XT.out, if_pos (by rw [<- XK.out, hx]; decide)]);have a41 : ((s[k].toNat : Int) == 41) = true := by rw [hx]; rfl
     clear hx;go_wp2_with (first | (go_at_call 38; refine (letterR _ false _ (by rw [XK.out]; exact LU.out)).mono ?_; rintro e w' ⟨rfl, rfl⟩) | (go_at_call 39; refine (digitR _ false _ (by rw [XK.out]; exact D.out)).mono ?_; rintro e w' ⟨rfl, rfl⟩))
     go_meet
     exact ⟨4, k + 1, by go_num, rfl, I, by decide, by omega, by omega, rfl⟩
    have a41 : ((s[k].toNat : Int) == 41) = false := by simpa using hx
    clear hx;by_cases hx : (s[k].toNat : Int) = 91
    ·as_aux_lemma =>
     have I : Hid (item s.data.toList k = (4, k + 1)) := zH (by rw [XT.out, if_pos (by rw [<- XK.out, hx]; decide)]);have a91 : ((s[k].toNat : Int) == 91) = true := by rw [hx]; rfl
     clear hx;go_wp2_with (first | (go_at_call 38; refine (letterR _ false _ (by rw [XK.out]; exact LU.out)).mono ?_; rintro e w' ⟨rfl, rfl⟩) | (go_at_call 39; refine (digitR _ false _ (by rw [XK.out]; exact D.out)).mono ?_; rintro e w' ⟨rfl, rfl⟩))
     go_meet
     exact ⟨4, k + 1, by go_num, rfl, I, by decide, by omega, by omega, rfl⟩
    have a91 : ((s[k].toNat : Int) == 91) = false := by simpa using hx
    clear hx;by_cases hx : (s[k].toNat : Int) = 93
    ·as_aux_lemma =>
     have I : Hid (item s.data.toList k = (4, k + 1)) := zH (by rw [XT.out, if_pos (by rw [<- XK.out, hx]; decide)]);have a93 : ((s[k].toNat : Int) == 93) = true := by rw [hx]; rfl
     clear hx;go_wp2_with (first | (go_at_call 38; refine (letterR _ false _ (by rw [XK.out]; exact LU.out)).mono ?_; rintro e w' ⟨rfl, rfl⟩) | (go_at_call 39; refine (digitR _ false _ (by rw [XK.out]; exact D.out)).mono ?_; rintro e w' ⟨rfl, rfl⟩))
     go_meet
     exact ⟨4, k + 1, by go_num, rfl, I, by decide, by omega, by omega, rfl⟩
    have a93 : ((s[k].toNat : Int) == 93) = false := by simpa using hx
    clear hx;by_cases hx : (s[k].toNat : Int) = 60
    ·as_aux_lemma =>
     have I : Hid (item s.data.toList k = (4, k + 1)) := zH (by rw [XT.out, if_pos (by rw [<- XK.out, hx]; decide)]);have a60 : ((s[k].toNat : Int) == 60) = true := by rw [hx]; rfl
     clear hx;go_wp2_with (first | (go_at_call 38; refine (letterR _ false _ (by rw [XK.out]; exact LU.out)).mono ?_; rintro e w' ⟨rfl, rfl⟩) | (go_at_call 39; refine (digitR _ false _ (by rw [XK.out]; exact D.out)).mono ?_; rintro e w' ⟨rfl, rfl⟩))
     go_meet
     exact ⟨4, k + 1, by go_num, rfl, I, by decide, by omega, by omega, rfl⟩
    have a60 : ((s[k].toNat : Int) == 60) = false := by simpa using hx
    clear hx;by_cases hx : (s[k].toNat : Int) = 62
    ·as_aux_lemma =>
     have I : Hid (item s.data.toList k = (4, k + 1)) := zH (by rw [XT.out, if_pos (by rw [<- XK.out, hx]; decide)]);have a62 : ((s[k].toNat : Int) == 62) = true := by rw [hx]; rfl
     clear hx;go_wp2_with (first | (go_at_call 38; refine (letterR _ false _ (by rw [XK.out]; exact LU.out)).mono ?_; rintro e w' ⟨rfl, rfl⟩) | (go_at_call 39; refine (digitR _ false _ (by rw [XK.out]; exact D.out)).mono ?_; rintro e w' ⟨rfl, rfl⟩))
     go_meet
     exact ⟨4, k + 1, by go_num, rfl, I, by decide, by omega, by omega, rfl⟩
    have a62 : ((s[k].toNat : Int) == 62) = false := by simpa using hx
    clear hx;by_cases hx : (s[k].toNat : Int) = 44
    ·as_aux_lemma =>
     have I : Hid (item s.data.toList k = (4, k + 1)) := zH (by rw [XT.out, if_pos (by rw [<- XK.out, hx]; decide)]);have a44 : ((s[k].toNat : Int) == 44) = true := by rw [hx]; rfl
     clear hx;go_wp2_with (first | (go_at_call 38; refine (letterR _ false _ (by rw [XK.out]; exact LU.out)).mono ?_; rintro e w' ⟨rfl, rfl⟩) | (go_at_call 39; refine (digitR _ false _ (by rw [XK.out]; exact D.out)).mono ?_; rintro e w' ⟨rfl, rfl⟩))
     go_meet
     exact ⟨4, k + 1, by go_num, rfl, I, by decide, by omega, by omega, rfl⟩
    have a44 : ((s[k].toNat : Int) == 44) = false := by simpa using hx
    clear hx;by_cases hx : (s[k].toNat : Int) = 58
    ·as_aux_lemma =>
     have I : Hid (item s.data.toList k = (4, k + 1)) := zH (by rw [XT.out, if_pos (by rw [<- XK.out, hx]; decide)]);have a58 : ((s[k].toNat : Int) == 58) = true := by rw [hx]; rfl
     clear hx;go_wp2_with (first | (go_at_call 38; refine (letterR _ false _ (by rw [XK.out]; exact LU.out)).mono ?_; rintro e w' ⟨rfl, rfl⟩) | (go_at_call 39; refine (digitR _ false _ (by rw [XK.out]; exact D.out)).mono ?_; rintro e w' ⟨rfl, rfl⟩))
     go_meet
     exact ⟨4, k + 1, by go_num, rfl, I, by decide, by omega, by omega, rfl⟩
    have a58 : ((s[k].toNat : Int) == 58) = false := by simpa using hx
    clear hx;by_cases hx : (s[k].toNat : Int) = 61
    ·as_aux_lemma =>
     have I : Hid (item s.data.toList k = (4, k + 1)) := zH (by rw [XT.out, if_pos (by rw [<- XK.out, hx]; decide)]);have a61 : ((s[k].toNat : Int) == 61) = true := by rw [hx]; rfl
     clear hx;go_wp2_with (first | (go_at_call 38; refine (letterR _ false _ (by rw [XK.out]; exact LU.out)).mono ?_; rintro e w' ⟨rfl, rfl⟩) | (go_at_call 39; refine (digitR _ false _ (by rw [XK.out]; exact D.out)).mono ?_; rintro e w' ⟨rfl, rfl⟩))
     go_meet
     exact ⟨4, k + 1, by go_num, rfl, I, by decide, by omega, by omega, rfl⟩
    have a61 : ((s[k].toNat : Int) == 61) = false := by simpa using hx
    clear hx
    have I : item s.data.toList k = (5, k) := by
     rw [XT.out, if_neg (by
      rw [<- XK.out]; unfold signC signs
      simp only [List.contains_cons, List.contains_nil, a123, a125, a40, a41, a91, a93, a60, a62, a44, a58, a46, a61];decide)]
    have RF : Hid (fin s 0 [] = ([], (k : Int))) := zH (by rw [HF.out]; exact fin_bad acc hlt I);clear I XT;as_aux_lemma =>
    go_wp2_with (first | (go_at_call 38; refine (letterR _ false _ (by rw [XK.out]; exact LU.out)).mono ?_; rintro e w' ⟨rfl, rfl⟩) | (go_at_call 39; refine (digitR _ false _ (by rw [XK.out]; exact D.out)).mono ?_; rintro e w' ⟨rfl, rfl⟩))
    go_ret2
    exact ⟨hb', .inr ⟨k, RF.out, rfl⟩⟩
   case rest =>
    obtain ⟨c, k', rfl, rfl, I, c5, hk1, hk2, rfl⟩ := hcut;rcases Nat.eq_zero_or_pos c with rfl | c0
    ·as_aux_lemma =>
     have RF : Hid (fin s 0 [] = fin s k' acc) := zH (by rw [HF.out]; exact fin_skip acc hlt I.out);have c1 : ¬ ((0 : Nat) : Int) > 0 := by decide
     go_wp2
     go_roundw
     case rel => exact ⟨k', acc, hk2, rfl, RF, by omega, hown, hb'⟩
     case measure => simp [intOf]; omega
    ·as_aux_lemma =>
     have RF : Hid (fin s 0 [] = fin s k' (acc ++ [⟨c, k, s.extract k k'⟩])) := zH (by rw [HF.out]; exact fin_tok acc hlt I.out (by omega) c5);have hp32 : ((acc.length + 1) * 32 <= 140737488355328) := by omega
     have hkk : k <= k' := by omega
     have c1 : (c : Int) > 0 := by omega
     clear I;go_wp2_with (at_builtin; refine wpList_append_own _ rfl _ _ 61 rfl w.heap.size 92 i0 (.agg #[.int .i64 0, .int .i64 0, .string ⟨#[]⟩]) 3 32 Tryz.underlying61 hi hz0 hz1 hz2 rfl (by decide) _ _ _ rfl (hown.alloc _) ⟨wo.heap.size, 0, none⟩ 1 1 (tokCells ⟨c, k, s.extract k k'⟩) rfl rfl ?c1 ?c2 ?c3 ?c4 ?c5 ?_)
     case c1 =>
      intro j u hj;match j, hj with
      | 0, hj => simp [tokCells] at hj; subst hj; go_simp
      | 1, hj => simp [tokCells] at hj; subst hj; simp [Addr.add]
      | 2, hj => simp [tokCells] at hj; subst hj; simp [Addr.add]
     case c2 => intro u hu; simp [tokCells] at hu; rcases hu with rfl | rfl | rfl <;> rfl
     case c3 => unfold maxLen; omega
     case c4 => exact hp32
     case c5 => have := hb'.size; simp; omega
     intro v3 w3 hown3 hg3 _;have hb3 : Below w.heap.size w w3 := (below_new hb' _).grown hg3 (by have := hb'.size; simp; omega) (fun q hq => (hown.lt q hq).1)
     have hown4 : Hid (w3.ownsRow w.heap.size 92 3 v3 (acc ++ [(⟨c, k, s.extract k k'⟩ : Tok)]).length (rowCells (acc ++ [⟨c, k, s.extract k k'⟩]))) := zH (by
      rw [rowCells_snoc, List.length_append]; exact hown3)
     clear hown hown3 hg3 hb' hp32;go_wp2
     go_roundw
     case rel => exact ⟨k', _, hk2, rfl, RF, by simp; omega, hown4.out, hb3⟩
     case measure => simp [intOf]; omega
  ·as_aux_lemma =>
   have hk' : s.size <= k := by omega
   have RF : Hid (fin s 0 [] = (acc, -1)) := zH (by rw [HF.out]; exact fin_end s k acc hk');go_wp2
   go_ret2
   exact ⟨hb', .inl ⟨_, acc, RF.out, rfl, hown, by omega⟩⟩
theorem ref_yes (s : ByteArray) (ts : List Tok) (w : World) (hs : s.size <= 20000) (h : fin s 0 [] = (ts, -1)) :
    Calls Tryz.prog 18 #[.string s] w fun e w' => ∃ A c, e = .returned (.tuple #[.slice A ts.length c, .int .i64 (-1)]) /\ RowAt w' A ts /\ Below w.heap.size w w' := by
  refine (refTokens_any s w hs).mono ?_;rintro e w' ⟨hb, ⟨v, ts', hf, rfl, hown, -⟩ | ⟨k, hf, -⟩⟩
  · rw [h] at hf
    obtain rfl : ts = ts' := (Prod.mk.inj hf).1;obtain ⟨A, c, rfl, hr⟩ := own_rowAt hown;exact ⟨A, c, rfl, hr, hb⟩
  · rw [h] at hf
    have := (Prod.mk.inj hf).2
    omega
theorem ref_no (s : ByteArray) (k : Nat) (w : World) (hs : s.size <= 20000) (h : fin s 0 [] = ([], (k : Int))) :
    Calls Tryz.prog 18 #[.string s] w fun e w' => e = .returned (.tuple #[.slice none 0 0, .int .i64 k]) /\ Below w.heap.size w w' := by
  refine (refTokens_any s w hs).mono ?_;rintro e w' ⟨hb, ⟨v, ts', hf, -⟩ | ⟨k', hf, rfl⟩⟩
  · rw [h] at hf
    have := (Prod.mk.inj hf).2
    omega
  · rw [h] at hf
    have : (k : Int) = k' := (Prod.mk.inj hf).2
    obtain rfl : k = k' := by omega
    exact ⟨rfl, hb⟩
end Go.Proofs.YtddlmigofilejaaGreatDoor
namespace Go.Proofs.YtddlmigofilejaaGreatDoor
open Go.RowKit
open Go.Sort
open M
theorem finN_size (s : ByteArray) : ∀ (n i : Nat) (acc : List Tok), (∀ t ∈ acc, t.text.size <= s.size) -> ∀ t ∈ (finN s n i acc).1, t.text.size <= s.size
  | 0, _, acc, h => h
  | n + 1, i, acc, h => by
    unfold finN
    split
    · exact h
    split
    · intro t ht; simp at ht
    split
    · exact finN_size s n _ acc h
    · refine finN_size s n _ _ fun t ht => ?_
      rcases List.mem_append.1 ht with ht | ht
      · exact h t ht
      · rw [List.mem_singleton.1 ht]
        simp only [ByteArray.size_extract];omega
theorem fin_size (s : ByteArray) {ts : List Tok} (h : fin s 0 [] = (ts, -1)) : ∀ t ∈ ts, t.text.size <= s.size := by
  have := finN_size s (s.size - 0) 0 [] (fun t ht => by simp at ht)
  unfold fin at h
  rw [h] at this;exact this
theorem finN_len (s : ByteArray) : ∀ (n i : Nat) (acc : List Tok), (finN s n i acc).1.length <= acc.length + n
  | 0, _, acc => by unfold finN; exact Nat.le_refl _
  | n + 1, i, acc => by
    unfold finN
    split
    · show acc.length <= _; omega
    split
    · show 0 <= _; omega
    split
    · have := finN_len s n (item s.data.toList i).2 acc; omega
    · have := finN_len s n (item s.data.toList i).2 (acc ++ [⟨(item s.data.toList i).1, i, s.extract i (item s.data.toList i).2⟩])
      simp at this; omega
theorem fin_len (s : ByteArray) {ts : List Tok} (h : fin s 0 [] = (ts, -1)) : ts.length <= s.size := by
  have := finN_len s (s.size - 0) 0 []
  unfold fin at h
  rw [h] at this;simpa using this
def tkS (ts : List Tok) : Toks := ⟨ts.length, fun i => ((ts[i]?).map (fun t => (t.kind : Int))).getD 0, fun i => ((ts[i]?).map (fun t => t.text)).getD ⟨#[]⟩⟩
theorem RowAt.toks {w : World} {A : Option Addr} {ts : List Tok} (h : RowAt w A ts) (hs : ∀ t ∈ ts, t.text.size <= 20000) : TokAt w A (tkS ts) := by
  intro i hi;have hi' : i < ts.length := hi
  have ht : ts[i]? = some ts[i] := List.getElem?_eq_getElem hi';obtain ⟨g, hA, hg, h0, h1, h2⟩ := h i _ ht;have eK : (tkS ts).K i = (ts[i].kind : Int) := by unfold tkS; simp [ht]
  have eT : (tkS ts).T i = ts[i].text := by unfold tkS; simp [ht]
  refine ⟨g, 0, _, hA, hg, by rw [Nat.zero_add, eK]; exact h0, by rw [Nat.zero_add]; exact h1, by rw [Nat.zero_add, eT]; exact h2, ?_⟩;rw [eT];have := hs _ (List.getElem_mem hi')
  omega
theorem tkS_small {ts : List Tok} (hs : ∀ t ∈ ts, t.text.size <= 20000) : ∀ i, i < (tkS ts).n -> ((tkS ts).T i).size <= 281474976710656 := fun i hi => by
  have hi' : i < ts.length := hi
  have ht : ts[i]? = some ts[i] := List.getElem?_eq_getElem hi';have eT : (tkS ts).T i = ts[i].text := by unfold tkS; simp [ht]
  rw [eT];have := hs _ (List.getElem_mem hi')
  omega
def SpC (g : Nat) (x : Int) (b : Nat) (w : World) : Prop := g < w.heap.size /\ w.cell? ⟨g, 0, none⟩ = some (.int .i64 x) /\ w.cell? ⟨g, 1, none⟩ = some (.iface 31 (.int .i64 b))
theorem SpAt.cells {g : Nat} {x : Int} {b : Nat} {w : World} (h : SpAt g x b w) : SpC g x b w := ⟨(Array.getElem?_eq_some_iff.1 h).1, by have := cZ h 0; simpa using this, by have := cZ h 1; simpa using this⟩
theorem SpC.below {g : Nat} {x : Int} {b : Nat} {w w' : World} (h : SpC g x b w) (hb : Below w.heap.size w w') : SpC g x b w' := ⟨Nat.lt_of_lt_of_le h.1 hb.size, (hb.cell (p := ⟨g, 0, none⟩) h.1).trans h.2.1, (hb.cell (p := ⟨g, 1, none⟩) h.1).trans h.2.2⟩
theorem SpC.row {g r : Nat} {x : Int} {b : Nat} {w : World} (h : SpC g x b w) (hne : g ≠ r) (vs : Array Value) : SpC g x b (w.setRow r vs) :=
  ⟨by have := h.1; simpa using this, (World.cell?_of_block (a := ⟨g, 0, none⟩) (setRow_other w r g vs hne)).trans h.2.1, (World.cell?_of_block (a := ⟨g, 1, none⟩) (setRow_other w r g vs hne)).trans h.2.2⟩
theorem toks_cases (s : ByteArray) : (∃ ts, fin s 0 [] = (ts, -1)) \/ ∃ k : Nat, fin s 0 [] = ([], (k : Int)) := by
  rcases fin_at s s.size 0 [] (by omega) with h | ⟨k, -, h⟩
  · exact .inl ⟨(fin s 0 []).1, by rw [<- h]⟩
  · exact .inr ⟨k, h⟩
end Go.Proofs.YtddlmigofilejaaGreatDoor
