/-
  Several texts in one.
-/
import Derived.Test.YtddlmigofilejaaGreatK10
set_option maxRecDepth 100000
set_option maxHeartbeats 32000000
namespace Go.Proofs.YtddlmigofilejaaGreat
open Go Go.RowKit Go.Shelf
open Go.Sort
open M
section
variable {P : Program} {w : World}
theorem run_append_from12 (base : Nat) (t ty e : TypeId) (i : TypeInfo) (z : Value) (size bytes : Nat) (ht : P.underlying t = some (.slice e)) (hi : P.info? e = some i) (hz : i.zero = some z)
  (hsize : i.size = size) (hby : i.bytes = bytes) (hzs : z.cells.size = size) (hsz : 0 < size)
  (v : Value) (n : Nat) (xs : List Value) (hown : w.ownsRow base e size v n xs) (B : Option Addr) (m c : Nat) (news : List Value) (hl : news.length = m * size) (hB : B = none -> m = 0)
  (hnews : ∀ ad, B = some ad -> ∀ j u, news[j]? = some u -> w.cell? (ad.add j) = some u) (h1 : ∀ u ∈ news, u.oneCell' = true)
  (h63 : n + m <= maxLen) (hbytes : (n + m) * bytes <= 140737488355328) (hbase : base <= w.heap.size) :
  ∃ v' w', (Builtin.append_ #[t, t] ty #[v, .slice B m c]).run P w = .ok v' w' /\ w'.ownsRow base e size v' (n + m) (xs ++ news) /\ w.grownBy w' v.ownBlock := by
 cases B with
 | none =>
  obtain rfl := hB rfl;have hn : news = [] := List.length_eq_zero_iff.1 (by simpa using hl);subst hn;exact ⟨v, w, run_append_empty base t ty e i size ht hi v n c xs hown, by rw [List.append_nil]; exact hown, ⟨rfl, rfl, rfl, Nat.le_refl _, fun _ _ _ => rfl⟩⟩
 | some ad =>
  obtain ⟨v', w', hr, h2, h3, -, -⟩ := run_append_own_at (P := P) w base t ty e i z size bytes ht hi hz hsize hby hzs hsz v n xs hown ad m c news hl (hnews ad rfl) h1 h63 hbytes hbase;exact ⟨v', w', hr, h2, h3⟩
theorem wpList_append_from12 {ops : Array Oper} {rest : List Oper} {o : Oper} {a : Act} {Q : Exit -> Act -> World -> Prop} (hgd : o.guard = none) (s x : Operand) (t : TypeId)
  (ho : o.op = .call { callee := .builtin .append, args := #[s, x], argTypes := #[t, t] })
  (base : Nat) (e : TypeId) (i : TypeInfo) (z : Value) (size bytes : Nat) (ht : P.underlying t = some (.slice e)) (hi : P.info? e = some i) (hz : i.zero = some z)
  (hsize : i.size = size) (hby : i.bytes = bytes) (hzs : z.cells.size = size) (hsz : 0 < size)
  (v : Value) (n : Nat) (xs : List Value) (hs : a.eval s = v) (hown : w.ownsRow base e size v n xs) (B : Option Addr) (m c : Nat) (news : List Value) (hxe : a.eval x = .slice B m c) (hl : news.length = m * size) (hB : B = none -> m = 0)
  (hnews : ∀ ad, B = some ad -> ∀ j u, news[j]? = some u -> w.cell? (ad.add j) = some u) (h1 : ∀ u ∈ news, u.oneCell' = true)
  (h63 : n + m <= maxLen) (hbytes : (n + m) * bytes <= 140737488355328) (hbase : base <= w.heap.size)
  (h : ∀ v' w', w'.ownsRow base e size v' (n + m) (xs ++ news) -> w.grownBy w' v.ownBlock -> wpList P ops Q rest (a.put o.dst v') w') : wpList P ops Q (o :: rest) a w :=
 wpList_plain hgd fun _ hK => by
  obtain ⟨v', w', hr, h2, h3⟩ := run_append_from12 (P := P) base t o.type e i z size bytes ht hi hz hsize hby hzs hsz v n xs hown B m c news hl hB hnews h1 h63 hbytes hbase;unfold Oper.wp execOp
  simp only [ho, resolve, invoke, builtin, Sem.run_bind, Sem.run_pure, Result.andThen_ok, List.map_toArray, List.map_cons, List.map_nil, hs, hxe, hr];exact hK _ _ (h v' w' h2 h3)
end
def riseP (x : ByteArray) : List ByteArray -> List ByteArray
 | [] => [x]
 | y :: r => if Op.bytesLess y.toList x.toList = true then y :: riseP x r else if y = x then y :: r else x :: y :: r
theorem riseP_ins {x : ByteArray} : ∀ {l : List ByteArray} {k : Nat}, k <= l.length -> (∀ (j : Nat) (y : ByteArray), j < k -> l[j]? = some y -> Op.bytesLess y.toList x.toList = true) -> (k = l.length \/ ∃ y, l[k]? = some y /\ Op.bytesLess y.toList x.toList = false /\ y ≠ x) -> riseP x l = l.take k ++ [x] ++ l.drop k
 | [], k, hk, _, _ => by
  have : k = 0 := by simpa using hk
  subst this; rfl
 | y :: r, 0, _, _, h2 => by
  rcases h2 with h2 | ⟨z, hz, h2, h3⟩
  ·simp at h2
  ·simp at hz; subst hz
   unfold riseP
   rw [if_neg (by rw [h2]; decide), if_neg h3]; rfl
 | y :: r, k + 1, hk, h1, h2 => by
  have e := h1 0 y (by omega) rfl;unfold riseP
  rw [if_pos e, riseP_ins (l := r) (k := k) (by simpa using hk) (fun j z hj hz => h1 (j + 1) z (by omega) (by simpa using hz)) (by
   rcases h2 with h2 | ⟨z, hz, h2⟩
   ·exact .inl (by simpa using h2)
   ·exact .inr ⟨z, by simpa using hz, h2⟩)]
  rfl
theorem riseP_eq {x : ByteArray} : ∀ {l : List ByteArray} {k : Nat}, (∀ (j : Nat) (y : ByteArray), j < k -> l[j]? = some y -> Op.bytesLess y.toList x.toList = true) -> l[k]? = some x -> riseP x l = l
 | [], k, _, h => by simp at h
 | y :: r, 0, _, h => by
  simp at h; subst h
  unfold riseP
  rw [if_neg (by rw [bless_lts, decide_eq_false (lts_irrefl _)]; decide), if_pos rfl]
 | y :: r, k + 1, h1, h => by
  have e := h1 0 y (by omega) rfl;unfold riseP
  rw [if_pos e, riseP_eq (l := r) (k := k) (fun j z hj hz => h1 (j + 1) z (by omega) (by simpa using hz)) (by simpa using h)]
theorem riseP_mem {x s : ByteArray} : ∀ {l : List ByteArray}, s ∈ riseP x l ↔ s = x \/ s ∈ l
 | [] => by simp [riseP]
 | y :: r => by
  unfold riseP
  split
  ·rw [List.mem_cons, riseP_mem, List.mem_cons]
   constructor
   ·rintro (h | h | h)
    ·exact .inr (.inl h)
    ·exact .inl h
    ·exact .inr (.inr h)
   ·rintro (h | h | h)
    ·exact .inr (.inl h)
    ·exact .inl h
    ·exact .inr (.inr h)
  ·split
   ·rename_i e
    subst e;simp
   ·simp
theorem riseP_rise {x : ByteArray} : ∀ {l : List ByteArray}, Rising l -> Rising (riseP x l)
 | [], _ => List.pairwise_singleton _ _
 | y :: r, h => by
  obtain ⟨h1, h2⟩ := List.pairwise_cons.1 h;unfold riseP
  split
  ·rename_i e
   rw [bless_lts, decide_eq_true_eq] at e;refine List.pairwise_cons.2 ⟨fun z hz => ?_, riseP_rise h2⟩;rcases riseP_mem.1 hz with rfl | hz
   ·exact e
   ·exact h1 z hz
  ·rename_i e
   rw [bless_lts, decide_eq_true_eq] at e;split
   ·exact h
   ·rename_i ne
    have hxy : LtS x y := by
     rcases lts_tri x y with h | h | h
     ·exact h
     ·exact absurd h.symm ne
     ·exact absurd h e
    refine List.pairwise_cons.2 ⟨fun z hz => ?_, h⟩;rcases List.mem_cons.1 hz with rfl | hz
    ·exact hxy
    ·exact lts_trans hxy (h1 z hz)
theorem riseP_len (x : ByteArray) : ∀ l : List ByteArray, 0 < (riseP x l).length /\ (riseP x l).length <= l.length + 1
 | [] => by simp [riseP]
 | y :: r => by
  have := riseP_len x r
  unfold riseP
  split
  ·simp; omega
  ·split <;> simp
def risesP (l : List ByteArray) (xs : List ByteArray) : List ByteArray := xs.foldl (fun l x => riseP x l) l
theorem risesP_mem : ∀ {xs l : List ByteArray} {s : ByteArray}, s ∈ risesP l xs ↔ s ∈ l \/ s ∈ xs
 | [], l, s => by simp [risesP]
 | x :: r, l, s => by
  show s ∈ risesP (riseP x l) r ↔ _
  rw [risesP_mem, riseP_mem, List.mem_cons];constructor
  ·rintro ((h | h) | h)
   ·exact .inr (.inl h)
   ·exact .inl h
   ·exact .inr (.inr h)
  ·rintro (h | h | h)
   ·exact .inl (.inr h)
   ·exact .inl (.inl h)
   ·exact .inr h
theorem risesP_rise : ∀ {xs l : List ByteArray}, Rising l -> Rising (risesP l xs)
 | [], l, h => h
 | x :: r, l, h => risesP_rise (xs := r) (riseP_rise h)
theorem risesP_uni (xs : List ByteArray) : risesP [] xs = uniN xs := by
 refine rising_one _ _ (risesP_rise List.Pairwise.nil) (uniN_rise _) fun s => ?_
 rw [risesP_mem, uniN_mem]; simp
def RsOut (lo : Nat) (s : ByteArray) (l : List ByteArray) (w : World) (e : Ending) (w' : World) : Prop := ∃ (A : Option Addr) (c : Nat), e = .returned (.slice A (riseP s l).length c) /\ NamesAt (strike (fun k => k < lo) w') A (riseP s l) /\ (riseP s l).length <= c /\ Below w.heap.size w w'
theorem rise_any (lo : Nat) (l : List ByteArray) (A : Option Addr) (c : Nat) (x : ByteArray) (w : World) (hlo : lo <= w.heap.size) (hR0 : NamesAt (strike (fun k => k < lo) w) A l) (hx : x.size <= 9223372036854775807) (hz : l.length <= 100000) (hc : l.length <= c) (hA : (A = none /\ c = 0) \/ 0 < l.length) :
  Calls Tryz.prog 27 #[.slice A l.length c, .string x] w (RsOut lo x l w) := by
 have HR0 := hZ hR0
 have hR := names_free hR0
 have HR := hZ hR
 obtain ⟨n, hn⟩ : ∃ n, n = l.length := ⟨_, rfl⟩
 have HN := hZ hn
 have hn0 : n <= 100000 := by rw [hn]; exact hz
 have hnc : n <= c := by rw [hn]; exact hc
 have HAC : Hid ((A = none /\ c = 0 /\ n = 0) \/ ((∃ g o, A = some ⟨g, o, none⟩) /\ 0 < n)) := hZ (by
  rcases hA with ⟨h1, h2⟩ | h
  ·exact .inl ⟨h1, h2, by omega⟩
  ·obtain ⟨y, hy⟩ : ∃ y, l[0]? = some y := ⟨_, List.getElem?_eq_getElem h⟩
   obtain ⟨g, o, e, -⟩ := hR 0 y hy;exact .inr ⟨⟨g, o, e⟩, by omega⟩)
 have HZS : Hid (∀ s ∈ riseP x l, s.size <= 9223372036854775807) := hZ (fun s hs => by
  rcases riseP_mem.1 hs with rfl | hs
  ·exact hx
  ·obtain ⟨i, hi⟩ := List.getElem?_of_mem hs
   obtain ⟨g, o, -, -, -, h⟩ := hR i s hi;exact h)
 have HCC : Hid (∀ (g o : Nat), A = some ⟨g, o, none⟩ -> ∀ wx : World, Below w.heap.size w wx -> ∀ (j : Nat) (u : Value), (l.map Value.string)[j]? = some u -> wx.cell? ⟨g, o + j, none⟩ = some u) := hZ (fun g o e wx hb j u hu => by
  subst e;rw [List.getElem?_map] at hu;obtain ⟨s, hs, rfl⟩ := Option.map_eq_some_iff.1 hu;obtain ⟨g', o', e, hg, h, -⟩ := hR j s hs;cases e
  exact (hb.cell (p := ⟨g, o + j, none⟩) hg).trans h)
 rw [<- hn]
 clear hR hR0 hn hz hc hA hx
 go_enter Tryz.func27, Tryz.ntmps27
 go_wp2_with fail
 go_loopw [5] (fun s5 wr => ∃ k : Nat, k <= n /\ s5 = .int .i64 k /\ Hid (∀ (j : Nat) (y : ByteArray), j < k -> l[j]? = some y -> Op.bytesLess y.toList x.toList = true) /\ wr = w) (fun s5 _ => n - (intOf s5).toNat)
 case atStart => exact ⟨0, by omega, rfl, hZ (fun j y h => by omega), rfl⟩
 case round =>
  obtain ⟨k, hk, rfl, HP, rfl⟩ := hrel;obtain ⟨wz, rfl⟩ : ∃ wz : World, wz = wr := ⟨_, rfl⟩;by_cases hlt : k < n
  ·obtain ⟨y, hy⟩ : ∃ y, l[k]? = some y := ⟨_, List.getElem?_eq_getElem (by rw [<- HN.out]; exact hlt)⟩
   obtain ⟨g, o, rfl, hg, a0, -⟩ := HR.out k y hy;have HY := hZ hy;have hk0 : (0 : Int) <= k := by omega
   have hk1 : (k : Int) < n := by omega
   have hlt' : decide ((k : Int) < n) = true := by simp; omega
   obtain ⟨q, hq⟩ : ∃ q, Op.bytesLess y.toList x.toList = q := ⟨_, rfl⟩;have HQ := hZ hq;clear hy hg;cases q with
   | true =>
    go_wp2_with fail
    go_roundw
    case rel => exact ⟨k + 1, by omega, by go_num, hZ (fun j z hj hz => by
     rcases Nat.lt_or_ge j k with e | e
     ·exact HP.out j z e hz
     ·rw [show j = k by omega, HY.out] at hz
      cases hz
      exact HQ.out), by trivial⟩
    case measure => simp [intOf]; omega
   | false =>
    have hq2 := str_eq y x;by_cases hyx : y = x
    ·rw [decide_eq_true hyx] at hq2
     have EQ : Hid (riseP x l = l) := hZ (riseP_eq HP.out (by rw [HY.out, hyx]));have HR2 := hZ HR0.out;have FIN : Hid (RsOut lo x l wz (.returned (.slice (some ⟨g, o, none⟩) n c)) wz) := hZ ⟨_, _, by rw [EQ.out, <- HN.out], by rw [EQ.out]; exact HR2.out, by rw [EQ.out, <- HN.out]; exact hnc, Below.refl _ _⟩;clear hyx;go_wp2_with fail
     go_ret;exact FIN.out
    ·rw [decide_eq_false hyx] at hq2
     have PUT : Hid (riseP x l = l.take k ++ [x] ++ l.drop k) := hZ (riseP_ins (by rw [<- HN.out]; exact hk) HP.out (.inr ⟨y, HY.out, HQ.out, hyx⟩));have hck : ¬ c = k := by omega
     have hc0 : ¬ c = 0 := by omega
     clear hyx;have hkc1 : (0 : Int) <= ((k : Nat) : Int) := by omega
     have hkc2 : ((k : Nat) : Int) <= ((c : Nat) : Int) := by omega
     have hkc3 : ((k : Nat) : Int) <= ((n : Nat) : Int) := by omega
     have hkc4 : k <= c := by omega
     have hkc5 : k <= n := by omega
     obtain ⟨inf, hi1, hy0, hy1, hy2⟩ := info_parts str_info9;have own0 : (wz.alloc (.cells #[] 9)).ownsRow wz.heap.size 9 1 (.slice (some ⟨wz.heap.size, 0, none⟩) 0 0) 0 [] := World.ownsRow_lit (base := wz.heap.size) (e := 9) (size := 1) wz #[] 0 (Nat.le_refl _) (by decide) rfl;have hbA : Below wz.heap.size wz (wz.alloc (.cells #[] 9)) := below_new (Below.refl _ _) _;have hsA : wz.heap.size <= (wz.alloc (.cells #[] 9)).heap.size := by simp
     have hm1 : 0 + k <= maxLen := by unfold maxLen; omega
     have hl1 : ((l.take k).map Value.string).length = k * 1 := by rw [List.length_map, List.length_take, <- HN.out]; try omega
     have hl2 : ((l.drop k).map Value.string).length = (n - k) * 1 := by rw [List.length_map, List.length_drop, <- HN.out]; try omega
     have ho1 : ∀ u ∈ (l.take k).map Value.string, u.oneCell' = true := fun u hu => by
      obtain ⟨s, -, rfl⟩ := List.mem_map.1 hu; rfl
     have ho2 : ∀ u ∈ (l.drop k).map Value.string, u.oneCell' = true := fun u hu => by
      obtain ⟨s, -, rfl⟩ := List.mem_map.1 hu; rfl
     have hn1 : ∀ ad : Addr, ((some ⟨g, o, none⟩) : Option Addr) = some ad -> ∀ j u, ((l.take k).map Value.string)[j]? = some u -> (wz.alloc (.cells #[] 9)).cell? (ad.add j) = some u := (fun ad e j u hu => by
      cases e
      rw [WideShapes.add_plain];rw [List.map_take, List.getElem?_take] at hu;split at hu
      ·exact HCC.out g o rfl _ hbA j u hu
      ·cases hu)
     go_upto_region 7 with (first | (refine wpList_append_from12 rfl (.tmp 34) (.tmp 37) 47 rfl wz.heap.size 9 inf _ 1 16 Tryz.underlying47 hi1 hy0 hy1 hy2 (by rfl) (Nat.zero_lt_succ 0) (.slice (some ⟨wz.heap.size, 0, none⟩) 0 0) 0 [] rfl own0 (some ⟨g, o, none⟩) k _ ((l.take k).map Value.string) rfl hl1 (by intro h; first | rfl | cases h) hn1 ho1 hm1 (by omega) hsA ?_; intro v5 w6 hown5 hgrow5))
     rw [Nat.zero_add, List.nil_append] at hown5;have hb6 : Below wz.heap.size wz w6 := below_grown hbA hsA own0 hgrow5;have HB6 := hZ hb6;clear hgrow5 own0 hn1;have hm2 : k + 1 <= maxLen := by unfold maxLen; omega
     have hsB : wz.heap.size <= (w6.alloc (.cells #[.string x] 9)).heap.size := by have := HB6.out.size; simp; omega
     have hbC : Below wz.heap.size wz (w6.alloc (.cells #[.string x] 9)) := below_new hb6 _;have own5 : (w6.alloc (.cells #[.string x] 9)).ownsRow wz.heap.size 9 1 v5 k ((l.take k).map Value.string) := hown5.alloc _;clear hb6;go_upto_region 8 with (first | (refine wpList_append_from12 rfl (.tmp 39) (.tmp 41) 47 rfl wz.heap.size 9 inf _ 1 16 Tryz.underlying47 hi1 hy0 hy1 hy2 (by rfl) (Nat.zero_lt_succ 0) v5 k _ rfl own5 (some ⟨w6.heap.size, 0, none⟩) 1 1 [.string x] rfl rfl (by intro h; cases h) (fun ad e j u hu => by cases e; rw [WideShapes.add_plain, Nat.zero_add, cZ (heap_alloc_new w6 _), <- hu, <- List.getElem?_toArray]) (fun u hu => by simp at hu; subst hu; rfl) hm2 (by omega) hsB ?_; intro v6 w7 hown6 hgrow6))
     have hb7 : Below wz.heap.size wz w7 := below_grown hbC hsB own5 hgrow6;have HB7 := hZ hb7;clear hgrow6 own5 hown5 hbC hsB;have hs7 := HB7.out.size;have hm3 : k + 1 + (n - k) <= maxLen := by unfold maxLen; omega
     have hn2 : ∀ ad : Addr, ((some ⟨g, o + k, none⟩) : Option Addr) = some ad -> ∀ j u, ((l.drop k).map Value.string)[j]? = some u -> w7.cell? (ad.add j) = some u := (fun ad e j u hu => by
      cases e
      rw [WideShapes.add_plain];rw [List.map_drop, List.getElem?_drop] at hu;have := HCC.out g o rfl _ HB7.out (k + j) u hu
      rw [<- Nat.add_assoc] at this;exact this)
     go_wp2_with (first | (refine wpList_append_from12 rfl (.tmp 43) (.tmp 46) 47 rfl wz.heap.size 9 inf _ 1 16 Tryz.underlying47 hi1 hy0 hy1 hy2 (by rfl) (Nat.zero_lt_succ 0) v6 (k + 1) _ rfl hown6 (some ⟨g, o + k, none⟩) (n - k) _ ((l.drop k).map Value.string) rfl hl2 (by intro h; first | rfl | cases h) hn2 ho2 hm3 (by omega) hs7 ?_; intro v7 w8 hown7 hgrow7))
     have hb8 : Below wz.heap.size wz w8 := below_grown hb7 hs7 hown6 hgrow7;have e8 : k + 1 + (n - k) = n + 1 := by omega
     rw [e8] at hown7;obtain ⟨A8, c8, rfl⟩ := own_slice hown7
     have FIN : Hid (RsOut lo x l wz (.returned (.slice A8 (n + 1) c8)) w8) := hZ (by
      have hlen : (riseP x l).length = n + 1 := by rw [PUT.out, List.length_append, List.length_append, List.length_take, List.length_drop, List.length_singleton]; have := HN.out; omega
      have hF : (riseP x l).map Value.string = (l.take k).map Value.string ++ [.string x] ++ (l.drop k).map Value.string := by rw [PUT.out, List.map_append, List.map_append]; rfl
      rw [<- hF] at hown7;have hcap := own_cap hown7;refine ⟨A8, c8, by rw [hlen], ?_, by rw [hlen]; exact hcap, hb8⟩;obtain ⟨-, A9, c9, e9, hN9⟩ := own_names (l := riseP x l) hown7 (fun i s hs => HZS.out s (List.mem_of_getElem? hs));cases e9
      exact hN9 (fun k => k < lo) (fun b hb h => by omega))
     clear hb8 hown7 hgrow7 hb7 hown6 hn2;go_ret;exact FIN.out
  ·have hkn : k = n := by omega
   have hlt' : decide ((k : Int) < n) = false := by simp; omega
   have PUT : Hid (riseP x l = l.take k ++ [x] ++ l.drop k) := hZ (riseP_ins (by rw [<- HN.out]; exact hk) HP.out (.inl (by rw [<- HN.out]; exact hkn)));rcases HAC.out with ⟨rfl, rfl, h0⟩ | ⟨⟨g, o, rfl⟩, hpos⟩
   ·obtain rfl : n = 0 := h0
    obtain rfl : k = 0 := hkn;obtain ⟨inf, hi1, hy0, hy1, hy2⟩ := info_parts str_info9;have own0 : (wz.alloc (.cells #[] 9)).ownsRow wz.heap.size 9 1 (.slice (some ⟨wz.heap.size, 0, none⟩) 0 0) 0 [] := World.ownsRow_lit (base := wz.heap.size) (e := 9) (size := 1) wz #[] 0 (Nat.le_refl _) (by decide) rfl;have hbA : Below wz.heap.size wz (wz.alloc (.cells #[] 9)) := below_new (Below.refl _ _) _;have hsA : wz.heap.size <= (wz.alloc (.cells #[] 9)).heap.size := by simp
    have hm1 : 0 + 0 <= maxLen := by unfold maxLen; omega
    have hl1 : ((l.take 0).map Value.string).length = 0 * 1 := by rw [List.length_map, List.length_take, <- HN.out]; try omega
    have hl2 : ((l.drop 0).map Value.string).length = 0 * 1 := by rw [List.length_map, List.length_drop, <- HN.out]; try omega
    have ho1 : ∀ u ∈ (l.take 0).map Value.string, u.oneCell' = true := fun u hu => by
     obtain ⟨s, -, rfl⟩ := List.mem_map.1 hu; rfl
    have ho2 : ∀ u ∈ (l.drop 0).map Value.string, u.oneCell' = true := fun u hu => by
     obtain ⟨s, -, rfl⟩ := List.mem_map.1 hu; rfl
    have hn1 : ∀ ad : Addr, (none : Option Addr) = some ad -> ∀ j u, ((l.take 0).map Value.string)[j]? = some u -> (wz.alloc (.cells #[] 9)).cell? (ad.add j) = some u := (fun ad e => by cases e);go_upto_region 7 with (first | (refine wpList_append_from12 rfl (.tmp 34) (.tmp 37) 47 rfl wz.heap.size 9 inf _ 1 16 Tryz.underlying47 hi1 hy0 hy1 hy2 (by rfl) (Nat.zero_lt_succ 0) (.slice (some ⟨wz.heap.size, 0, none⟩) 0 0) 0 [] rfl own0 none 0 _ ((l.take 0).map Value.string) rfl hl1 (by intro h; first | rfl | cases h) hn1 ho1 hm1 (by omega) hsA ?_; intro v5 w6 hown5 hgrow5))
    rw [Nat.zero_add, List.nil_append] at hown5;have hb6 : Below wz.heap.size wz w6 := below_grown hbA hsA own0 hgrow5;have HB6 := hZ hb6;clear hgrow5 own0 hn1;have hm2 : 0 + 1 <= maxLen := by unfold maxLen; omega
    have hsB : wz.heap.size <= (w6.alloc (.cells #[.string x] 9)).heap.size := by have := HB6.out.size; simp; omega
    have hbC : Below wz.heap.size wz (w6.alloc (.cells #[.string x] 9)) := below_new hb6 _;have own5 : (w6.alloc (.cells #[.string x] 9)).ownsRow wz.heap.size 9 1 v5 0 ((l.take 0).map Value.string) := hown5.alloc _;clear hb6;go_upto_region 8 with (first | (refine wpList_append_from12 rfl (.tmp 39) (.tmp 41) 47 rfl wz.heap.size 9 inf _ 1 16 Tryz.underlying47 hi1 hy0 hy1 hy2 (by rfl) (Nat.zero_lt_succ 0) v5 0 _ rfl own5 (some ⟨w6.heap.size, 0, none⟩) 1 1 [.string x] rfl rfl (by intro h; cases h) (fun ad e j u hu => by cases e; rw [WideShapes.add_plain, Nat.zero_add, cZ (heap_alloc_new w6 _), <- hu, <- List.getElem?_toArray]) (fun u hu => by simp at hu; subst hu; rfl) hm2 (by omega) hsB ?_; intro v6 w7 hown6 hgrow6))
    have hb7 : Below wz.heap.size wz w7 := below_grown hbC hsB own5 hgrow6;have HB7 := hZ hb7;clear hgrow6 own5 hown5 hbC hsB;have hs7 := HB7.out.size;have hm3 : 0 + 1 + 0 <= maxLen := by unfold maxLen; omega
    have hn2 : ∀ ad : Addr, (none : Option Addr) = some ad -> ∀ j u, ((l.drop 0).map Value.string)[j]? = some u -> w7.cell? (ad.add j) = some u := (fun ad e => by cases e);go_wp2_with (first | (refine wpList_append_from12 rfl (.tmp 43) (.tmp 46) 47 rfl wz.heap.size 9 inf _ 1 16 Tryz.underlying47 hi1 hy0 hy1 hy2 (by rfl) (Nat.zero_lt_succ 0) v6 (0 + 1) _ rfl hown6 none 0 _ ((l.drop 0).map Value.string) rfl hl2 (by intro h; first | rfl | cases h) hn2 ho2 hm3 (by omega) hs7 ?_; intro v7 w8 hown7 hgrow7))
    have hb8 : Below wz.heap.size wz w8 := below_grown hb7 hs7 hown6 hgrow7;have e8 : 0 + 1 + 0 = 0 + 1 := by omega
    rw [e8] at hown7;obtain ⟨A8, c8, rfl⟩ := own_slice hown7
    have FIN : Hid (RsOut lo x l wz (.returned (.slice A8 (0 + 1) c8)) w8) := hZ (by
     have hlen : (riseP x l).length = 0 + 1 := by rw [PUT.out, List.length_append, List.length_append, List.length_take, List.length_drop, List.length_singleton]; have := HN.out; omega
     have hF : (riseP x l).map Value.string = (l.take 0).map Value.string ++ [.string x] ++ (l.drop 0).map Value.string := by rw [PUT.out, List.map_append, List.map_append]; rfl
     rw [<- hF] at hown7;have hcap := own_cap hown7;refine ⟨A8, c8, by rw [hlen], ?_, by rw [hlen]; exact hcap, hb8⟩;obtain ⟨-, A9, c9, e9, hN9⟩ := own_names (l := riseP x l) hown7 (fun i s hs => HZS.out s (List.mem_of_getElem? hs));cases e9
     exact hN9 (fun k => k < lo) (fun b hb h => by omega))
    clear hb8 hown7 hgrow7 hb7 hown6 hn2;go_ret;exact FIN.out
   ·have hc0 : ¬ c = 0 := by omega
    have HKN := hZ hkn;clear hkn;by_cases hck : c = k
    ·obtain rfl := hck
     have hkc1 : (0 : Int) <= ((c : Nat) : Int) := by omega
     have hkc2 : ((c : Nat) : Int) <= ((c : Nat) : Int) := by omega
     have hkc3 : ((c : Nat) : Int) <= ((n : Nat) : Int) := by omega
     have hkc4 : c <= c := by omega
     have hkc5 : c <= n := by omega
     clear hnc;obtain ⟨inf, hi1, hy0, hy1, hy2⟩ := info_parts str_info9;have own0 : (wz.alloc (.cells #[] 9)).ownsRow wz.heap.size 9 1 (.slice (some ⟨wz.heap.size, 0, none⟩) 0 0) 0 [] := World.ownsRow_lit (base := wz.heap.size) (e := 9) (size := 1) wz #[] 0 (Nat.le_refl _) (by decide) rfl;have hbA : Below wz.heap.size wz (wz.alloc (.cells #[] 9)) := below_new (Below.refl _ _) _;have hsA : wz.heap.size <= (wz.alloc (.cells #[] 9)).heap.size := by simp
     have hm1 : 0 + c <= maxLen := by unfold maxLen; omega
     have hl1 : ((l.take c).map Value.string).length = c * 1 := by rw [List.length_map, List.length_take, <- HN.out]; try omega
     have hl2 : ((l.drop c).map Value.string).length = (n - c) * 1 := by rw [List.length_map, List.length_drop, <- HN.out]; try omega
     have ho1 : ∀ u ∈ (l.take c).map Value.string, u.oneCell' = true := fun u hu => by
      obtain ⟨s, -, rfl⟩ := List.mem_map.1 hu; rfl
     have ho2 : ∀ u ∈ (l.drop c).map Value.string, u.oneCell' = true := fun u hu => by
      obtain ⟨s, -, rfl⟩ := List.mem_map.1 hu; rfl
     have hn1 : ∀ ad : Addr, ((some ⟨g, o, none⟩) : Option Addr) = some ad -> ∀ j u, ((l.take c).map Value.string)[j]? = some u -> (wz.alloc (.cells #[] 9)).cell? (ad.add j) = some u := (fun ad e j u hu => by
      cases e
      rw [WideShapes.add_plain];rw [List.map_take, List.getElem?_take] at hu;split at hu
      ·exact HCC.out g o rfl _ hbA j u hu
      ·cases hu)
     go_upto_region 7 with (first | (refine wpList_append_from12 rfl (.tmp 34) (.tmp 37) 47 rfl wz.heap.size 9 inf _ 1 16 Tryz.underlying47 hi1 hy0 hy1 hy2 (by rfl) (Nat.zero_lt_succ 0) (.slice (some ⟨wz.heap.size, 0, none⟩) 0 0) 0 [] rfl own0 (some ⟨g, o, none⟩) c _ ((l.take c).map Value.string) rfl hl1 (by intro h; first | rfl | cases h) hn1 ho1 hm1 (by omega) hsA ?_; intro v5 w6 hown5 hgrow5))
     rw [Nat.zero_add, List.nil_append] at hown5;have hb6 : Below wz.heap.size wz w6 := below_grown hbA hsA own0 hgrow5;have HB6 := hZ hb6;clear hgrow5 own0 hn1;have hm2 : c + 1 <= maxLen := by unfold maxLen; omega
     have hsB : wz.heap.size <= (w6.alloc (.cells #[.string x] 9)).heap.size := by have := HB6.out.size; simp; omega
     have hbC : Below wz.heap.size wz (w6.alloc (.cells #[.string x] 9)) := below_new hb6 _;have own5 : (w6.alloc (.cells #[.string x] 9)).ownsRow wz.heap.size 9 1 v5 c ((l.take c).map Value.string) := hown5.alloc _;clear hb6;go_upto_region 8 with (first | (refine wpList_append_from12 rfl (.tmp 39) (.tmp 41) 47 rfl wz.heap.size 9 inf _ 1 16 Tryz.underlying47 hi1 hy0 hy1 hy2 (by rfl) (Nat.zero_lt_succ 0) v5 c _ rfl own5 (some ⟨w6.heap.size, 0, none⟩) 1 1 [.string x] rfl rfl (by intro h; cases h) (fun ad e j u hu => by cases e; rw [WideShapes.add_plain, Nat.zero_add, cZ (heap_alloc_new w6 _), <- hu, <- List.getElem?_toArray]) (fun u hu => by simp at hu; subst hu; rfl) hm2 (by omega) hsB ?_; intro v6 w7 hown6 hgrow6))
     have hb7 : Below wz.heap.size wz w7 := below_grown hbC hsB own5 hgrow6;have HB7 := hZ hb7;clear hgrow6 own5 hown5 hbC hsB;have hs7 := HB7.out.size;have hm3 : c + 1 + (n - c) <= maxLen := by unfold maxLen; omega
     have hn2 : ∀ ad : Addr, ((some ⟨g, o, none⟩) : Option Addr) = some ad -> ∀ j u, ((l.drop c).map Value.string)[j]? = some u -> w7.cell? (ad.add j) = some u := (fun ad e j u hu => by
      cases e
      rw [WideShapes.add_plain];rw [List.map_drop, List.getElem?_drop] at hu;have := HCC.out g o rfl _ HB7.out (c + j) u hu
      have hj := (List.getElem?_eq_some_iff.1 hu).1;simp at hj; have := HN.out; omega)
     go_wp2_with (first | (refine wpList_append_from12 rfl (.tmp 43) (.tmp 46) 47 rfl wz.heap.size 9 inf _ 1 16 Tryz.underlying47 hi1 hy0 hy1 hy2 (by rfl) (Nat.zero_lt_succ 0) v6 (c + 1) _ rfl hown6 (some ⟨g, o, none⟩) (n - c) _ ((l.drop c).map Value.string) rfl hl2 (by intro h; first | rfl | cases h) hn2 ho2 hm3 (by omega) hs7 ?_; intro v7 w8 hown7 hgrow7))
     have hb8 : Below wz.heap.size wz w8 := below_grown hb7 hs7 hown6 hgrow7;have e8 : c + 1 + (n - c) = n + 1 := by omega
     rw [e8] at hown7;obtain ⟨A8, c8, rfl⟩ := own_slice hown7
     have FIN : Hid (RsOut lo x l wz (.returned (.slice A8 (n + 1) c8)) w8) := hZ (by
      have hlen : (riseP x l).length = n + 1 := by rw [PUT.out, List.length_append, List.length_append, List.length_take, List.length_drop, List.length_singleton]; have := HN.out; omega
      have hF : (riseP x l).map Value.string = (l.take c).map Value.string ++ [.string x] ++ (l.drop c).map Value.string := by rw [PUT.out, List.map_append, List.map_append]; rfl
      rw [<- hF] at hown7;have hcap := own_cap hown7;refine ⟨A8, c8, by rw [hlen], ?_, by rw [hlen]; exact hcap, hb8⟩;obtain ⟨-, A9, c9, e9, hN9⟩ := own_names (l := riseP x l) hown7 (fun i s hs => HZS.out s (List.mem_of_getElem? hs));cases e9
      exact hN9 (fun k => k < lo) (fun b hb h => by omega))
     clear hb8 hown7 hgrow7 hb7 hown6 hn2;go_ret;exact FIN.out
    ·skip
     have hkc1 : (0 : Int) <= ((k : Nat) : Int) := by omega
     have hkc2 : ((k : Nat) : Int) <= ((c : Nat) : Int) := by omega
     have hkc3 : ((k : Nat) : Int) <= ((n : Nat) : Int) := by omega
     have hkc4 : k <= c := by omega
     have hkc5 : k <= n := by omega
     obtain ⟨inf, hi1, hy0, hy1, hy2⟩ := info_parts str_info9;have own0 : (wz.alloc (.cells #[] 9)).ownsRow wz.heap.size 9 1 (.slice (some ⟨wz.heap.size, 0, none⟩) 0 0) 0 [] := World.ownsRow_lit (base := wz.heap.size) (e := 9) (size := 1) wz #[] 0 (Nat.le_refl _) (by decide) rfl;have hbA : Below wz.heap.size wz (wz.alloc (.cells #[] 9)) := below_new (Below.refl _ _) _;have hsA : wz.heap.size <= (wz.alloc (.cells #[] 9)).heap.size := by simp
     have hm1 : 0 + k <= maxLen := by unfold maxLen; omega
     have hl1 : ((l.take k).map Value.string).length = k * 1 := by rw [List.length_map, List.length_take, <- HN.out]; try omega
     have hl2 : ((l.drop k).map Value.string).length = (n - k) * 1 := by rw [List.length_map, List.length_drop, <- HN.out]; try omega
     have ho1 : ∀ u ∈ (l.take k).map Value.string, u.oneCell' = true := fun u hu => by
      obtain ⟨s, -, rfl⟩ := List.mem_map.1 hu; rfl
     have ho2 : ∀ u ∈ (l.drop k).map Value.string, u.oneCell' = true := fun u hu => by
      obtain ⟨s, -, rfl⟩ := List.mem_map.1 hu; rfl
     have hn1 : ∀ ad : Addr, ((some ⟨g, o, none⟩) : Option Addr) = some ad -> ∀ j u, ((l.take k).map Value.string)[j]? = some u -> (wz.alloc (.cells #[] 9)).cell? (ad.add j) = some u := (fun ad e j u hu => by
      cases e
      rw [WideShapes.add_plain];rw [List.map_take, List.getElem?_take] at hu;split at hu
      ·exact HCC.out g o rfl _ hbA j u hu
      ·cases hu)
     go_upto_region 7 with (first | (refine wpList_append_from12 rfl (.tmp 34) (.tmp 37) 47 rfl wz.heap.size 9 inf _ 1 16 Tryz.underlying47 hi1 hy0 hy1 hy2 (by rfl) (Nat.zero_lt_succ 0) (.slice (some ⟨wz.heap.size, 0, none⟩) 0 0) 0 [] rfl own0 (some ⟨g, o, none⟩) k _ ((l.take k).map Value.string) rfl hl1 (by intro h; first | rfl | cases h) hn1 ho1 hm1 (by omega) hsA ?_; intro v5 w6 hown5 hgrow5))
     rw [Nat.zero_add, List.nil_append] at hown5;have hb6 : Below wz.heap.size wz w6 := below_grown hbA hsA own0 hgrow5;have HB6 := hZ hb6;clear hgrow5 own0 hn1;have hm2 : k + 1 <= maxLen := by unfold maxLen; omega
     have hsB : wz.heap.size <= (w6.alloc (.cells #[.string x] 9)).heap.size := by have := HB6.out.size; simp; omega
     have hbC : Below wz.heap.size wz (w6.alloc (.cells #[.string x] 9)) := below_new hb6 _;have own5 : (w6.alloc (.cells #[.string x] 9)).ownsRow wz.heap.size 9 1 v5 k ((l.take k).map Value.string) := hown5.alloc _;clear hb6;go_upto_region 8 with (first | (refine wpList_append_from12 rfl (.tmp 39) (.tmp 41) 47 rfl wz.heap.size 9 inf _ 1 16 Tryz.underlying47 hi1 hy0 hy1 hy2 (by rfl) (Nat.zero_lt_succ 0) v5 k _ rfl own5 (some ⟨w6.heap.size, 0, none⟩) 1 1 [.string x] rfl rfl (by intro h; cases h) (fun ad e j u hu => by cases e; rw [WideShapes.add_plain, Nat.zero_add, cZ (heap_alloc_new w6 _), <- hu, <- List.getElem?_toArray]) (fun u hu => by simp at hu; subst hu; rfl) hm2 (by omega) hsB ?_; intro v6 w7 hown6 hgrow6))
     have hb7 : Below wz.heap.size wz w7 := below_grown hbC hsB own5 hgrow6;have HB7 := hZ hb7;clear hgrow6 own5 hown5 hbC hsB;have hs7 := HB7.out.size;have hm3 : k + 1 + (n - k) <= maxLen := by unfold maxLen; omega
     have hn2 : ∀ ad : Addr, ((some ⟨g, o + k, none⟩) : Option Addr) = some ad -> ∀ j u, ((l.drop k).map Value.string)[j]? = some u -> w7.cell? (ad.add j) = some u := (fun ad e j u hu => by
      cases e
      rw [WideShapes.add_plain];rw [List.map_drop, List.getElem?_drop] at hu;have := HCC.out g o rfl _ HB7.out (k + j) u hu
      rw [<- Nat.add_assoc] at this;exact this)
     go_wp2_with (first | (refine wpList_append_from12 rfl (.tmp 43) (.tmp 46) 47 rfl wz.heap.size 9 inf _ 1 16 Tryz.underlying47 hi1 hy0 hy1 hy2 (by rfl) (Nat.zero_lt_succ 0) v6 (k + 1) _ rfl hown6 (some ⟨g, o + k, none⟩) (n - k) _ ((l.drop k).map Value.string) rfl hl2 (by intro h; first | rfl | cases h) hn2 ho2 hm3 (by omega) hs7 ?_; intro v7 w8 hown7 hgrow7))
     have hb8 : Below wz.heap.size wz w8 := below_grown hb7 hs7 hown6 hgrow7;have e8 : k + 1 + (n - k) = n + 1 := by omega
     rw [e8] at hown7;obtain ⟨A8, c8, rfl⟩ := own_slice hown7
     have FIN : Hid (RsOut lo x l wz (.returned (.slice A8 (n + 1) c8)) w8) := hZ (by
      have hlen : (riseP x l).length = n + 1 := by rw [PUT.out, List.length_append, List.length_append, List.length_take, List.length_drop, List.length_singleton]; have := HN.out; omega
      have hF : (riseP x l).map Value.string = (l.take k).map Value.string ++ [.string x] ++ (l.drop k).map Value.string := by rw [PUT.out, List.map_append, List.map_append]; rfl
      rw [<- hF] at hown7;have hcap := own_cap hown7;refine ⟨A8, c8, by rw [hlen], ?_, by rw [hlen]; exact hcap, hb8⟩;obtain ⟨-, A9, c9, e9, hN9⟩ := own_names (l := riseP x l) hown7 (fun i s hs => HZS.out s (List.mem_of_getElem? hs));cases e9
      exact hN9 (fun k => k < lo) (fun b hb h => by omega))
     clear hb8 hown7 hgrow7 hb7 hown6 hn2;go_ret;exact FIN.out
end Go.Proofs.YtddlmigofilejaaGreat
namespace Go.Proofs.YtddlmigofilejaaGreat
open Go Go.RowKit Go.Shelf
open Go.Sort Go.Maps
open M
def gN (l : List Nm) (s : ByteArray) : Nm := (l.find? (isNm s)).getD zNm
def isMd (s : ByteArray) (x : If) : Bool := decide (x.mod = s)
def gI (l : List If) (s : ByteArray) : If := (l.find? (isMd s)).getD zIf
theorem gI_row (l : List If) (s : ByteArray) (t : Bool) : rowOf t (gI l s) = rowP l s t := by
  unfold gI rowP ofMod
  show rowOf t ((l.find? fun x => decide (x.mod = s)).getD zIf) = _
  cases l.find? fun x => decide (x.mod = s) with
  | none => cases t <;> rfl
  | some x => rfl
def GnOut (w0 w : World) (L : List Nm) (s : ByteArray) (e : Ending) (w' : World) : Prop :=
  ∃ l : List Value, e = .returned (.tuple #[.agg l.toArray, .bool (L.find? (isNm s)).isSome]) /\ (∀ wx, Below w0.heap.size w0 wx -> nmE wx l (gN L s)) /\ Below w.heap.size w w'
def GiOut (w0 w : World) (L : List If) (s : ByteArray) (e : Ending) (w' : World) : Prop :=
  ∃ l : List Value, e = .returned (.tuple #[.agg l.toArray, .bool (L.find? (isMd s)).isSome]) /\ (∀ wx, Below w0.heap.size w0 wx -> ifE wx l (gI L s)) /\ Below w.heap.size w w'
theorem find_first {α : Type} {nm : α -> ByteArray} {l : List α} {s : ByteArray} (hr : Rising (l.map nm)) {i : Nat} {x : α} (hx : l[i]? = some x) (he : nm x = s) : l.find? (fun y => decide (nm y = s)) = some x := by
  cases e : l.find? (fun y => decide (nm y = s)) with
  | none =>
    rw [List.find?_eq_none] at e;exact absurd (decide_eq_true he) (e x (List.mem_of_getElem? hx))
  | some y =>
    have hy : nm y = s := by
      have h0 := List.find?_some e;exact of_decide_eq_true h0
    obtain ⟨q, hq⟩ := List.getElem?_of_mem (List.mem_of_find?_eq_some e);have h1 : (l.map nm)[i]? = some s := by rw [List.getElem?_map, hx]; simp [he]
    have h2 : (l.map nm)[q]? = some s := by rw [List.getElem?_map, hq]; simp [hy]
    have := nodup_at (rising_nodup hr) h1 h2
    subst this;rw [hx] at hq; exact hq.symm
theorem findN_any (A : Option Addr) (c : Nat) (L : List Nm) (s : ByteArray) (w0 w : World) (h : RowIn nmR w0 A L) (hw : Below w0.heap.size w0 w) (hl : L.length <= 4611686018427387903) (hr : Rising (L.map (·.name))) :
    Calls Tryz.prog 71 #[.slice A L.length c, .func (.func 42) #[] #[], .string s] w (GnOut w0 w L s) := by
  have HE := hZ h;have HW0 := hZ hw;obtain ⟨W2, hW2, B2, O0, O1, hl2⟩ := two_boxes w #[.func (.func 42) #[] #[]] #[.string ⟨#[]⟩, .int .i64 0, .string ⟨#[]⟩, .int .i64 0, .string ⟨#[]⟩, .string ⟨#[]⟩, .slice none 0 0, .slice none 0 0] 86 52;have IX := hZ (bsN_any A c L s w.heap.size W2 ((h.below hw).below B2) hl hr (by have := cZ O0 0; simpa using this));have HRR := hZ hr;have HB0 := hZ B2;have HO1 := hZ O1;have HW := hZ hW2;obtain ⟨n, hn⟩ : ∃ n, n = L.length := ⟨_, rfl⟩;have HN := hZ hn;rw [<- hn] at hl IX ⊢;clear h hw hW2 B2 O0 O1 hn hr;go_enter Tryz.func71, Tryz.ntmps71
  go_upto_region 1 with fail
  rw [<- HW.out];clear HW;go_wp2_with fail
  refine IX.out.mono ?_; rintro e w2 ⟨i, b, rfl, hyes, hno, hb2⟩
  have HB2 : Hid (Below w.heap.size w w2) := hZ (below_over HB0.out hb2);have hl3 := Nat.lt_of_lt_of_le hl2 hb2.size;have X5 := (hb2.block _ hl2).trans HO1.out;have HX5 := hZ X5;clear hb2 IX;cases b with
  | false =>
    have HNO := hZ (hno rfl)
    have hk : L.find? (isNm s) = none := by
      rw [List.find?_eq_none];intro x hx e;exact HNO.out x hx (of_decide_eq_true e)
    obtain ⟨w3, hw3⟩ : ∃ w3, w3 = w2.alloc (.cells #[.string ⟨#[]⟩, .int .i64 0, .string ⟨#[]⟩, .int .i64 0, .string ⟨#[]⟩, .string ⟨#[]⟩, .slice none 0 0, .slice none 0 0] 52) := ⟨_, rfl⟩;have B3 : Below w2.heap.size w2 w3 := by rw [hw3]; exact below_new (Below.refl _ _) _
    have Z3 : w3.heap[w2.heap.size]? = some (.cells #[.string ⟨#[]⟩, .int .i64 0, .string ⟨#[]⟩, .int .i64 0, .string ⟨#[]⟩, .string ⟨#[]⟩, .slice none 0 0, .slice none 0 0] 52 (0, 0)) := by rw [hw3]; exact heap_alloc_new w2 _
    have X5 := (B3.block _ hl3).trans X5;have HX5 := hZ X5;have FIN : Hid (GnOut w0 w L s (.returned (.tuple #[.agg #[.string ⟨#[]⟩, .int .i64 0, .string ⟨#[]⟩, .int .i64 0, .string ⟨#[]⟩, .string ⟨#[]⟩, .slice none 0 0, .slice none 0 0], .bool false])) (w3.setRow (w.heap.size + 1) #[.string ⟨#[]⟩, .int .i64 0, .string ⟨#[]⟩, .int .i64 0, .string ⟨#[]⟩, .string ⟨#[]⟩, .slice none 0 0, .slice none 0 0])) := hZ (by rw [hw3]; exact ⟨[.string ⟨#[]⟩, .int .i64 0, .string ⟨#[]⟩, .int .i64 0, .string ⟨#[]⟩, .string ⟨#[]⟩, .slice none 0 0, .slice none 0 0], by rw [hk]; rfl, by unfold gN; rw [hk]; exact fun wx _ => zero_nm _, setRow_below (below_new HB2.out _) (by omega) _⟩);have HW3 := hZ hw3;obtain ⟨z0, z1, z2, z3, z4, z5, z6, z7⟩ := cq8 Z3;simp at z0 z1 z2 z3 z4 z5 z6 z7;clear hk hw3 B3 Z3 hyes hno;go_upto_region 4 with fail
    rw [<- HW3.out];clear HW3;go_wp2_with (first | ((with_reducible refine wpList_putRow 52 (w.heap.size + 1) #[.string ⟨#[]⟩, .int .i64 0, .string ⟨#[]⟩, .int .i64 0, .string ⟨#[]⟩, .string ⟨#[]⟩, .slice none 0 0, .slice none 0 0] _ _ X5 ?_ ?_ ?_ ?_ ?_ ?_); exact nmSizeI; rfl; exact nmOneI; iterate 2 (focus (first | (go_simp; done) | rfl))))
    exact ret_agg (fn := Tryz.f71) (vs := [.string ⟨#[]⟩, .int .i64 0, .string ⟨#[]⟩, .int .i64 0, .string ⟨#[]⟩, .string ⟨#[]⟩, .slice none 0 0, .slice none 0 0]) (b := w.heap.size + 1) rfl rfl rfl Tryz.underlying52 (by kernel_rfl) (cell8I (setRow_heap w3 (w.heap.size + 1) _ _ _ _ HX5.out)) rfl FIN.out
  | true =>
    obtain ⟨y, hy, hye⟩ := hyes rfl;have hk : L.find? (isNm s) = some y := find_first HRR.out hy hye;have hkl : i < n := by rw [HN.out]; exact (List.getElem?_eq_some_iff.1 hy).1
    obtain ⟨g, o, Bn, cB, Bs, dB, rfl, hg, a0, a1, a2, a3, a4, a5, a6, a7, hT, hz⟩ := HE.out.nm hy;have c0 := ((below_over HW0.out HB2.out).cell (p := ⟨g, _, none⟩) hg).trans a0;have c1 := ((below_over HW0.out HB2.out).cell (p := ⟨g, _, none⟩) hg).trans a1;have c2 := ((below_over HW0.out HB2.out).cell (p := ⟨g, _, none⟩) hg).trans a2;have c3 := ((below_over HW0.out HB2.out).cell (p := ⟨g, _, none⟩) hg).trans a3;have c4 := ((below_over HW0.out HB2.out).cell (p := ⟨g, _, none⟩) hg).trans a4;have c5 := ((below_over HW0.out HB2.out).cell (p := ⟨g, _, none⟩) hg).trans a5;have c6 := ((below_over HW0.out HB2.out).cell (p := ⟨g, _, none⟩) hg).trans a6;have c7 := ((below_over HW0.out HB2.out).cell (p := ⟨g, _, none⟩) hg).trans a7;have FIN : Hid (GnOut w0 w L s (.returned (.tuple #[.agg #[.string y.name, .int .i64 y.typ.kind, .string y.typ.pkg, .int .i64 y.typ.major, .string y.typ.mod, .string y.typ.name, .slice Bn y.typ.names.length cB, .slice Bs y.typ.subs.length dB], .bool true])) (w2.setRow (w.heap.size + 1) #[.string y.name, .int .i64 y.typ.kind, .string y.typ.pkg, .int .i64 y.typ.major, .string y.typ.mod, .string y.typ.name, .slice Bn y.typ.names.length cB, .slice Bs y.typ.subs.length dB])) := hZ ⟨[.string y.name, .int .i64 y.typ.kind, .string y.typ.pkg, .int .i64 y.typ.major, .string y.typ.mod, .string y.typ.name, .slice Bn y.typ.names.length cB, .slice Bs y.typ.subs.length dB], by rw [hk]; rfl, by unfold gN; rw [hk]; exact fun wx hb => ⟨hz, _, rfl, hT.keep hb⟩, setRow_below HB2.out (by omega) _⟩;have hk0 : (0 : Int) <= i := by omega
    have hk1 : (i : Int) < n := by omega
    clear hk hy hye hyes hno hT hz a0 a1 a2 a3 a4 a5 a6 a7;go_upto_region 5 with fail
    go_wp2_with (first | ((with_reducible refine wpList_putRow 52 (w.heap.size + 1) #[.string y.name, .int .i64 y.typ.kind, .string y.typ.pkg, .int .i64 y.typ.major, .string y.typ.mod, .string y.typ.name, .slice Bn y.typ.names.length cB, .slice Bs y.typ.subs.length dB] _ _ X5 ?_ ?_ ?_ ?_ ?_ ?_); exact nmSizeI; rfl; exact nmOneI; iterate 2 (focus (first | (go_simp; done) | rfl))))
    exact ret_agg (fn := Tryz.f71) (vs := [.string y.name, .int .i64 y.typ.kind, .string y.typ.pkg, .int .i64 y.typ.major, .string y.typ.mod, .string y.typ.name, .slice Bn y.typ.names.length cB, .slice Bs y.typ.subs.length dB]) (b := w.heap.size + 1) rfl rfl rfl Tryz.underlying52 (by kernel_rfl) (cell8I (setRow_heap w2 (w.heap.size + 1) _ _ _ _ HX5.out)) rfl FIN.out
theorem findI_any (A : Option Addr) (c : Nat) (L : List If) (s : ByteArray) (w0 w : World) (h : RowIn ifR w0 A L) (hw : Below w0.heap.size w0 w) (hl : L.length <= 4611686018427387903) (hr : Rising (L.map (·.mod))) :
    Calls Tryz.prog 21 #[.slice A L.length c, .func (.func 20) #[] #[], .string s] w (GiOut w0 w L s) := by
  have HE := hZ h;have HW0 := hZ hw;obtain ⟨W2, hW2, B2, O0, O1, hl2⟩ := two_boxes w #[.func (.func 20) #[] #[]] #[.string ⟨#[]⟩, .int .i64 0, .string ⟨#[]⟩, .slice none 0 0, .slice none 0 0] 57 44;have IX := hZ (bsI_any A c L s w.heap.size W2 ((h.below hw).below B2) hl hr (by have := cZ O0 0; simpa using this));have HRR := hZ hr;have HB0 := hZ B2;have HO1 := hZ O1;have HW := hZ hW2;obtain ⟨n, hn⟩ : ∃ n, n = L.length := ⟨_, rfl⟩;have HN := hZ hn;rw [<- hn] at hl IX ⊢;clear h hw hW2 B2 O0 O1 hn hr;go_enter Tryz.func21, Tryz.ntmps21
  go_upto_region 1 with fail
  rw [<- HW.out];clear HW;go_wp2_with fail
  refine IX.out.mono ?_; rintro e w2 ⟨i, b, rfl, hyes, hno, hb2⟩
  have HB2 : Hid (Below w.heap.size w w2) := hZ (below_over HB0.out hb2);have hl3 := Nat.lt_of_lt_of_le hl2 hb2.size;have X5 := (hb2.block _ hl2).trans HO1.out;have HX5 := hZ X5;clear hb2 IX;cases b with
  | false =>
    have HNO := hZ (hno rfl)
    have hk : L.find? (isMd s) = none := by
      rw [List.find?_eq_none];intro x hx e;exact HNO.out x hx (of_decide_eq_true e)
    obtain ⟨w3, hw3⟩ : ∃ w3, w3 = w2.alloc (.cells #[.string ⟨#[]⟩, .int .i64 0, .string ⟨#[]⟩, .slice none 0 0, .slice none 0 0] 44) := ⟨_, rfl⟩;have B3 : Below w2.heap.size w2 w3 := by rw [hw3]; exact below_new (Below.refl _ _) _
    have Z3 : w3.heap[w2.heap.size]? = some (.cells #[.string ⟨#[]⟩, .int .i64 0, .string ⟨#[]⟩, .slice none 0 0, .slice none 0 0] 44 (0, 0)) := by rw [hw3]; exact heap_alloc_new w2 _
    have X5 := (B3.block _ hl3).trans X5;have HX5 := hZ X5;have FIN : Hid (GiOut w0 w L s (.returned (.tuple #[.agg #[.string ⟨#[]⟩, .int .i64 0, .string ⟨#[]⟩, .slice none 0 0, .slice none 0 0], .bool false])) (w3.setRow (w.heap.size + 1) #[.string ⟨#[]⟩, .int .i64 0, .string ⟨#[]⟩, .slice none 0 0, .slice none 0 0])) := hZ (by rw [hw3]; exact ⟨[.string ⟨#[]⟩, .int .i64 0, .string ⟨#[]⟩, .slice none 0 0, .slice none 0 0], by rw [hk]; rfl, by unfold gI; rw [hk]; exact fun wx _ => zero_if _, setRow_below (below_new HB2.out _) (by omega) _⟩);have HW3 := hZ hw3;obtain ⟨z0, z1, z2, z3, z4⟩ := cq5 Z3;simp at z0 z1 z2 z3 z4;clear hk hw3 B3 Z3 hyes hno;go_upto_region 4 with fail
    rw [<- HW3.out];clear HW3;go_wp2_with (first | ((with_reducible refine wpList_putRow 44 (w.heap.size + 1) #[.string ⟨#[]⟩, .int .i64 0, .string ⟨#[]⟩, .slice none 0 0, .slice none 0 0] _ _ X5 ?_ ?_ ?_ ?_ ?_ ?_); exact ifSize; rfl; exact ifOne; iterate 2 (focus (first | (go_simp; done) | rfl))))
    exact ret_agg (fn := Tryz.f21) (vs := [.string ⟨#[]⟩, .int .i64 0, .string ⟨#[]⟩, .slice none 0 0, .slice none 0 0]) (b := w.heap.size + 1) rfl rfl rfl Tryz.underlying44 (by kernel_rfl) (cell5 (setRow_heap w3 (w.heap.size + 1) _ _ _ _ HX5.out)) rfl FIN.out
  | true =>
    obtain ⟨y, hy, hye⟩ := hyes rfl;have hk : L.find? (isMd s) = some y := find_first HRR.out hy hye;have hkl : i < n := by rw [HN.out]; exact (List.getElem?_eq_some_iff.1 hy).1
    obtain ⟨g, o, At, ct, Av, cv, rfl, hg, a0, a1, a2, a3, a4, z1, z2, z3, z4, r1, r2⟩ := HE.out.ifc hy;have c0 := ((below_over HW0.out HB2.out).cell (p := ⟨g, _, none⟩) hg).trans a0;have c1 := ((below_over HW0.out HB2.out).cell (p := ⟨g, _, none⟩) hg).trans a1;have c2 := ((below_over HW0.out HB2.out).cell (p := ⟨g, _, none⟩) hg).trans a2;have c3 := ((below_over HW0.out HB2.out).cell (p := ⟨g, _, none⟩) hg).trans a3;have c4 := ((below_over HW0.out HB2.out).cell (p := ⟨g, _, none⟩) hg).trans a4;have FIN : Hid (GiOut w0 w L s (.returned (.tuple #[.agg #[.string y.pkg, .int .i64 y.major, .string y.mod, .slice At y.types.length ct, .slice Av y.vals.length cv], .bool true])) (w2.setRow (w.heap.size + 1) #[.string y.pkg, .int .i64 y.major, .string y.mod, .slice At y.types.length ct, .slice Av y.vals.length cv])) := hZ ⟨[.string y.pkg, .int .i64 y.major, .string y.mod, .slice At y.types.length ct, .slice Av y.vals.length cv], by rw [hk]; rfl, by unfold gI; rw [hk]; exact fun wx hb => ⟨_, _, _, _, rfl, z1, z2, z3, z4, r1.below hb, r2.below hb⟩, setRow_below HB2.out (by omega) _⟩;have hk0 : (0 : Int) <= i := by omega
    have hk1 : (i : Int) < n := by omega
    clear hk hy hye hyes hno z1 z2 z3 z4 r1 r2 a0 a1 a2 a3 a4;go_upto_region 5 with fail
    go_wp2_with (first | ((with_reducible refine wpList_putRow 44 (w.heap.size + 1) #[.string y.pkg, .int .i64 y.major, .string y.mod, .slice At y.types.length ct, .slice Av y.vals.length cv] _ _ X5 ?_ ?_ ?_ ?_ ?_ ?_); exact ifSize; rfl; exact ifOne; iterate 2 (focus (first | (go_simp; done) | rfl))))
    exact ret_agg (fn := Tryz.f21) (vs := [.string y.pkg, .int .i64 y.major, .string y.mod, .slice At y.types.length ct, .slice Av y.vals.length cv]) (b := w.heap.size + 1) rfl rfl rfl Tryz.underlying44 (by kernel_rfl) (cell5 (setRow_heap w2 (w.heap.size + 1) _ _ _ _ HX5.out)) rfl FIN.out
end Go.Proofs.YtddlmigofilejaaGreat
