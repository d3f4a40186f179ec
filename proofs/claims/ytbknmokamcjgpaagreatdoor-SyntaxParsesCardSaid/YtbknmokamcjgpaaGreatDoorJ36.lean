/-
  The reference's Parse of modules: what its loops stand on.
-/
import Derived.Test.YtbknmokamcjgpaaGreatDoorJ35
import Derived.Test.YtbknmokamcjgpaaGreatDoorJ23
namespace Go.Proofs.YtbknmokamcjgpaaGreatDoor
open Go.RowKit
open Go.Sort
open M

/-- A row more in a module's box, at its cell k: 1 imports, 2 declarations. -/
theorem row_more {α : Type} {R : Reads α} {lo d g cap c B : Nat} {xs : List α} {A : Option Addr} {w1 w3 : World} {o : Obj} {l : List Value} {x : α} {C : List (List Value)} {old : Array Value} {T : TypeId} {k : Nat}
    (h : Row R lo xs A c w1) (hlo : lo ≤ B) (hB1 : B ≤ w1.heap.size) (hwo : ∀ b, (Value.slice A xs.length c).ownBlock = some b → b < B)
    (hC1 : C.length = xs.length) (hC4 : ∀ (i : Nat) (l : List Value) (x : α), C[i]? = some l → xs[i]? = some x → R.E (strike (fun b => b < lo ∨ (Value.slice A xs.length c).ownBlock = some b) w1) l x)
    (hE : R.E (strike (· < B) w1) l x) (hown : w3.ownsRow lo R.T R.k (.slice (some ⟨g, 0, none⟩) (xs.length + 1) cap) (xs.length + 1) (C.flatten ++ l)) (hgrow : (w1.alloc o).grownBy w3 (Value.slice A xs.length c).ownBlock)
    (hat : (Value.slice A xs.length c).ownBlock = some g ∨ g = (w1.alloc o).heap.size) (hd : d < lo) (hbox : w1.heap[d]? = some (.cells old T (0, 0))) (hk : old[k]? = some (.slice A xs.length c)) :
    Row R lo (xs ++ [x]) (some ⟨g, 0, none⟩) cap (w3.setCell ⟨d, k, none⟩ (.slice (some ⟨g, 0, none⟩) (xs.length + 1) cap)) ∧
    (w3.setCell ⟨d, k, none⟩ (.slice (some ⟨g, 0, none⟩) (xs.length + 1) cap)).heap[d]? = some (.cells (old.setIfInBounds k (.slice (some ⟨g, 0, none⟩) (xs.length + 1) cap)) T (0, 0)) ∧
    (∀ b, b < lo → b ≠ d → (w3.setCell ⟨d, k, none⟩ (.slice (some ⟨g, 0, none⟩) (xs.length + 1) cap)).heap[b]? = w1.heap[b]?) ∧
    (∀ m, m ≤ d → Below m w1 (w3.setCell ⟨d, k, none⟩ (.slice (some ⟨g, 0, none⟩) (xs.length + 1) cap))) ∧
    w3.cell? ⟨d, k, none⟩ = some (.slice A xs.length c) ∧ w3.frozen? ⟨d, k, none⟩ = false ∧ w1.heap.size ≤ (w3.setCell ⟨d, k, none⟩ (.slice (some ⟨g, 0, none⟩) (xs.length + 1) cap)).heap.size := by
  obtain ⟨R3, old3, hs3⟩ := Row.more h hlo hwo hC1 hC4 hE hown hgrow hat
  have hlow : ∀ b, (Value.slice A xs.length c).ownBlock = some b → lo ≤ b := fun b e => (h.lt e).1
  have hd1 : d < w1.heap.size := (Array.getElem?_eq_some_iff.1 hbox).1
  have B3 := (old3 d (fun e => by have := hlow d e; omega) hd1).trans hbox
  have ot : ∀ b, b ≠ d → (w3.setCell ⟨d, k, none⟩ (.slice (some ⟨g, 0, none⟩) (xs.length + 1) cap)).heap[b]? = w3.heap[b]? := fun b hb => Below.heap_setCell _ _ _ _ (by show b ≠ d; exact hb)
  have of : ∀ b, b < lo → b ≠ d → (w3.setCell ⟨d, k, none⟩ (.slice (some ⟨g, 0, none⟩) (xs.length + 1) cap)).heap[b]? = w1.heap[b]? := fun b hb hne => (ot b hne).trans (old3 b (fun e => by have := hlow b e; omega) (by omega))
  refine ⟨R3.keep (by simp) (fun b hb hlt => ot b (by omega)), Joins.block_setCell (i := k) B3 _, of, fun m hm => ?_, ?_, Lib.frozen_of_heap B3 k, by simp; omega⟩
  · have hgw := hgrow
    exact ⟨hgw.os.trans rfl, hgw.tape.trans rfl, hgw.output.trans rfl, by simp; omega, fun j hj => of j (by omega) (by omega)⟩
  · rw [Lib.cell_of_heap B3 k]; exact hk

/-- The reader's imports, in a box; the reader's declarations. -/
structure J1 (W w : World) (r d lo : Nat) (A : Option Addr) (S : Toks) (cn : Nat) (F : Res Mo) (nm : ByteArray) (xs : List Im) (Ai : Option Addr) (ci i b : Nat) (wr : World) : Prop where
  kb : Below W.heap.size W wr
  box : Mx d nm Ai xs.length ci none 0 0 wr
  rows : Row imR lo xs Ai ci wr
  cur : Rm r A S.n cn i b wr
  fin : F = badR b i (restM S nm (impsR S (21 - xs.length) i xs))
  most : xs.length ≤ 20
  lole : lo ≤ wr.heap.size
structure J2 (W w : World) (r d lo l2 : Nat) (A : Option Addr) (S : Toks) (cn : Nat) (F : Res Mo) (nm : ByteArray) (l : List Im) (Ai : Option Addr) (ci : Nat) (xs : List De) (Ad : Option Addr) (cd i b : Nat) (wr : World) : Prop where
  kb : Below W.heap.size W wr
  box : Mx d nm Ai l.length ci Ad xs.length cd wr
  ims : RowIn imR (strike (fun b => b < lo ∨ l2 ≤ b) wr) Ai l
  rows : Row deR l2 xs Ad cd wr
  cur : Rm r A S.n cn i b wr
  fin : F = badR b i (restD S nm l i xs)
  most : xs.length ≤ 60
  lole : l2 ≤ wr.heap.size

theorem imp6_yes {S : Toks} {nm : ByteArray} {i i5 b5 : Nat} {xs : List Im} {x : Im} (hn : xs.length < 20) (hk : keyS S i kImport = true) (h : badR b5 i5 (.ok x i5 0) = impR S (i + 1)) :
    restM S nm (impsR S (21 - xs.length) i xs) = badR b5 i5 (restM S nm (impsR S (21 - (xs ++ [x]).length) i5 (xs ++ [x]))) ∧ (b5 = 0 → i < i5) := by
  have e0 : ∀ f, impsR S (f + 1) i xs = if keyS S i kImport = false then .ok xs i 0 else if 20 ≤ xs.length then .err 3 i else match impR S (i + 1) with
      | .err b j => .err b j
      | .ok x j _ => impsR S f j (xs ++ [x]) := fun f => rfl
  have e1 : (xs ++ [x]).length = xs.length + 1 := by simp
  rw [show 21 - xs.length = (20 - xs.length) + 1 by omega, e0, if_neg (by rw [hk]; decide), if_neg (by omega), ← h, e1, show 21 - (xs.length + 1) = 20 - xs.length by omega]
  by_cases hb : b5 = 0
  · subst hb
    have h6 := impR_ok h.symm
    rw [badR_0, badR_0]
    exact ⟨rfl, fun _ => by omega⟩
  · rw [badR_ne _ _ hb, badR_ne _ _ hb]
    exact ⟨rfl, fun e => absurd e hb⟩
theorem imp6_many {S : Toks} {nm : ByteArray} {i : Nat} {xs : List Im} (hn : xs.length = 20) (hk : keyS S i kImport = true) : restM S nm (impsR S (21 - xs.length) i xs) = .err 3 i := by
  rw [hn]
  have e0 : impsR S (0 + 1) i xs = if keyS S i kImport = false then .ok xs i 0 else if 20 ≤ xs.length then .err 3 i else match impR S (i + 1) with
      | .err b j => .err b j
      | .ok x j _ => impsR S 0 j (xs ++ [x]) := rfl
  rw [show 21 - 20 = 0 + 1 by omega, e0, if_neg (by rw [hk]; decide), if_pos (by omega)]
  rfl
theorem imp6_no {S : Toks} {nm : ByteArray} {i b : Nat} {xs : List Im} (hn : xs.length ≤ 20) (h : (decide (b = 0) && keyS S i kImport) = false) : badR b i (restM S nm (impsR S (21 - xs.length) i xs)) = badR b i (restD S nm xs i []) := by
  by_cases hb : b = 0
  · subst hb
    rw [badR_0, badR_0, show 21 - xs.length = (20 - xs.length) + 1 by omega]
    unfold impsR
    rw [if_pos (by simpa using h)]
    rfl
  · rw [badR_ne _ _ hb, badR_ne _ _ hb]
/-- Keys are words of small letters. -/
def Keyed (S : Toks) : Prop := ∀ i, i < S.n → declK (S.T i).data.toList ≠ 0 → S.K i = 1
theorem decAt_yes {S : Toks} {i : Nat} (h : decAt S i = true) : i < S.n ∧ declK (S.T i).data.toList ≠ 0 := by
  have hk : ∀ {l : List UInt8}, keyS S i l = true → i < S.n ∧ (S.T i).data.toList = l := fun {l} h => by
    unfold keyS at h
    simp only [Bool.and_eq_true, decide_eq_true_eq, beq_iff_eq] at h
    exact ⟨h.1.1, h.2⟩
  unfold decAt at h
  simp only [Bool.or_eq_true] at h
  rcases h with h | h | h | h
  all_goals (obtain ⟨h1, h2⟩ := hk h; refine ⟨h1, ?_⟩; rw [h2]; decide)
theorem decAt_no {S : Toks} (hK : Keyed S) {i : Nat} (h : decAt S i = false) (hi : i < S.n) : declAt S i = 0 := by
  unfold declAt
  rw [if_pos hi]
  by_cases hd : declK (S.T i).data.toList = 0
  · exact hd
  · have h1 := hK i hi hd
    have hk : ∀ {l : List UInt8}, (S.T i).data.toList = l → keyS S i l = true := fun {l} e => by
      unfold keyS
      rw [e, h1, decide_eq_true hi]
      simp
    unfold decAt at h
    simp only [Bool.or_eq_false_iff] at h
    rcases declK_cases hd with ⟨e, -⟩ | ⟨e, -⟩ | ⟨e, -⟩ | ⟨e, -⟩
    · rw [hk e] at h; exact absurd h.1 (by decide)
    · rw [hk e] at h; exact absurd h.2.1 (by decide)
    · rw [hk e] at h; exact absurd h.2.2.1 (by decide)
    · rw [hk e] at h; exact absurd h.2.2.2 (by decide)
theorem oneD_at {S : Toks} {i n : Nat} (hi : i < S.n) (hd : declK (S.T i).data.toList ≠ 0) (hn : n < 60) : oneD S i n = decR S (declK (S.T i).data.toList) (i + 1) := by
  have e : declAt S i = declK (S.T i).data.toList := if_pos hi
  unfold oneD
  rw [e, if_neg hd, if_neg (by omega)]
theorem oneD_many {S : Toks} {i n : Nat} (hi : i < S.n) (hd : declK (S.T i).data.toList ≠ 0) (hn : 60 ≤ n) : oneD S i n = .err 3 i := by
  have e : declAt S i = declK (S.T i).data.toList := if_pos hi
  unfold oneD
  rw [e, if_neg hd, if_pos hn]
theorem rest_err {S : Toks} {s : ByteArray} {l : List Im} {i b j : Nat} {xs : List De} (hn : xs.length ≤ 60) (hi : i < S.n) (h : oneD S i xs.length = .err b j) : restD S s l i xs = .err b j := by
  unfold restD
  rw [show 61 - xs.length = (60 - xs.length) + 1 by omega]
  unfold decsR
  rw [if_neg (by omega), h]
theorem oneD_none {S : Toks} {i n : Nat} (h : declAt S i = 0) : oneD S i n = .err 2 i := by unfold oneD; rw [if_pos h]
theorem mod_start {S : Toks} {s : ByteArray} {i2 b2 : Nat}
    (h1 : NameOut S (decide (psI 0 (keyS S 0 kModule) 0 < S.n) && smallK (S.K (psI 0 (keyS S 0 kModule) 0)) (S.T (psI 0 (keyS S 0 kModule) 0))) (psI 0 (keyS S 0 kModule) 0) (psB 0 (keyS S 0 kModule)) s i2 b2) : badR b2 i2 (restM S s (impsR S 21 i2 [])) = modR S := by
  have a := nameOut_res h1 (fun s j => restM S s (impsR S 21 j []))
  rw [small_k] at a
  have b := sign_res (keyS S 0 kModule) 0 0 (fun j => if S.small j = false then Res.err 2 j else restM S (S.T j) (impsR S 21 (j + 1) []))
  rw [a, b, badR_0]
  rfl

/-- What a lexer's tokens are of. -/
theorem finN_from (s : ByteArray) : ∀ (n i : Nat) (acc : List Tok), (∀ t ∈ acc, ∃ k, t.kind = (item s.data.toList k).1 ∧ t.text = s.extract k (item s.data.toList k).2) → ∀ t ∈ (finN s n i acc).1, ∃ k, t.kind = (item s.data.toList k).1 ∧ t.text = s.extract k (item s.data.toList k).2
  | 0, _, acc, h => h
  | n + 1, i, acc, h => by
    unfold finN
    split
    · exact h
    split
    · intro t ht; simp at ht
    split
    · exact finN_from s n _ acc h
    · refine finN_from s n _ _ fun t ht => ?_
      rcases List.mem_append.1 ht with ht | ht
      · exact h t ht
      · rw [List.mem_singleton.1 ht]
        exact ⟨i, rfl, rfl⟩
theorem keyed_fin {s : ByteArray} {ts : List Tok} (h : fin s 0 [] = (ts, -1)) : Keyed (tkS ts) := by
  intro i hi hd
  have hi' : i < ts.length := hi
  have ht : ts[i]? = some ts[i] := List.getElem?_eq_getElem hi'
  have eK : (tkS ts).K i = (ts[i].kind : Int) := by unfold tkS; simp [ht]
  have eT : (tkS ts).T i = ts[i].text := by unfold tkS; simp [ht]
  rw [eT] at hd
  rw [eK]
  have hf := finN_from s (s.size - 0) 0 [] (fun t ht => by simp at ht)
  unfold fin at h
  rw [h] at hf
  obtain ⟨k, e1, e2⟩ := hf ts[i] (List.getElem_mem hi')
  rw [e2] at hd
  have hx : (s.extract k (item s.data.toList k).2).data.toList = (s.data.toList.drop k).take ((item s.data.toList k).2 - k) := by
    rw [ByteArray.data_extract, Array.toList_extract, List.extract_eq_take_drop]
  have hb : ∀ c r, (s.extract k (item s.data.toList k).2).data.toList = c :: r → bt s.data.toList k = (c.toNat : Int) := fun c r e => by
    rw [hx] at e
    unfold bt
    cases hdr : s.data.toList.drop k with
    | nil => rw [hdr] at e; simp at e
    | cons c' r' =>
      rw [hdr] at e
      cases hm : (item s.data.toList k).2 - k with
      | zero => rw [hm] at e; simp at e
      | succ m =>
        rw [hm] at e
        simp at e
        have : s.data.toList[k]? = some c' := by
          have := congrArg (fun l => l[0]?) hdr
          simpa using this
        rw [List.getD_eq_getElem?_getD, this]
        simp [e.1]
  have hlow : ∀ x : Int, bt s.data.toList k = x → lowC x = true → blankC x = false → x ≠ 35 → (item s.data.toList k).1 = 1 := fun x e h1 h2 h3 => by
    unfold item
    rw [e, h2, if_neg (by decide), if_neg h3, if_pos h1]
  rw [e1]
  rcases declK_cases hd with ⟨e, -⟩ | ⟨e, -⟩ | ⟨e, -⟩ | ⟨e, -⟩
  · rw [hlow 111 (by rw [hb _ _ e]; rfl) (by decide) (by decide) (by decide)]; rfl
  · rw [hlow 104 (by rw [hb _ _ e]; rfl) (by decide) (by decide) (by decide)]; rfl
  · rw [hlow 97 (by rw [hb _ _ e]; rfl) (by decide) (by decide) (by decide)]; rfl
  · rw [hlow 118 (by rw [hb _ _ e]; rfl) (by decide) (by decide) (by decide)]; rfl

end Go.Proofs.YtbknmokamcjgpaaGreatDoor
