/-
  Several texts in one: Plain mathematics for layer 6: the text of a type that may be is read, token by token, as that type. · Plain mathematics for layer 6: the text of any type that may be is read as it. · Plain mathematics for layer 6: a module's text is read as it.
-/
import Derived.Test.YtpfoclpgcbjjoaaGreatDoorJ26
import Derived.Test.YtpfoclpgcbjjoaaGreatDoorJ09
import Derived.Test.YtpfoclpgcbjjoaaGreatDoorJ21
import Derived.Test.YtpfoclpgcbjjoaaGreatDoorJ05
import Derived.Test.YtpfoclpgcbjjoaaGreatDoorJ25
/- Plain mathematics for layer 6: the text of a type that may be is read, token by token, as that type. -/
namespace Go.Proofs.YtpfoclpgcbjjoaaGreatDoor.M
open Go

/-- These tokens stand there. -/
def Stands (S : Toks) (i : Nat) (tk : List Tk) : Prop := ∀ j p, tk[j]? = some p → i + j < S.n ∧ S.K (i + j) = (p.1 : Int) ∧ (S.T (i + j)).data.toList = p.2
theorem Stands.head {S : Toks} {i : Nat} {p : Tk} {tk : List Tk} (h : Stands S i (p :: tk)) : i < S.n ∧ S.K i = (p.1 : Int) ∧ (S.T i).data.toList = p.2 := by
  have := h 0 p rfl
  simpa using this
theorem Stands.tail {S : Toks} {i : Nat} {p : Tk} {tk : List Tk} (h : Stands S i (p :: tk)) : Stands S (i + 1) tk := fun j q hq => by
  have := h (j + 1) q (by simpa using hq)
  rwa [show i + (j + 1) = i + 1 + j by omega] at this
theorem Stands.left {S : Toks} {i : Nat} {a b : List Tk} (h : Stands S i (a ++ b)) : Stands S i a := fun j q hq => by
  exact h j q (by rw [List.getElem?_append_left (List.getElem?_eq_some_iff.1 hq).1]; exact hq)
theorem Stands.right {S : Toks} {i : Nat} {a b : List Tk} (h : Stands S i (a ++ b)) : Stands S (i + a.length) b := fun j q hq => by
  have := h (a.length + j) q (by rw [List.getElem?_append_right (by omega), show a.length + j - a.length = j by omega]; exact hq)
  rwa [show i + (a.length + j) = i + a.length + j by omega] at this
theorem sign_of {S : Toks} {i : Nat} {l : List UInt8} (h : i < S.n ∧ S.K i = ((4 : Nat) : Int) ∧ (S.T i).data.toList = l) : S.sign i l = true := by
  unfold Toks.sign; simp [h.1, h.2.1, h.2.2]
theorem sign_not {S : Toks} {i : Nat} {l m : List UInt8} (h : (S.T i).data.toList = m) (hne : m ≠ l) : S.sign i l = false := by
  unfold Toks.sign; rw [h, show (m == l) = false by simpa using hne]; simp
theorem sign_kind {S : Toks} {i : Nat} {l : List UInt8} (h : S.K i ≠ 4) : S.sign i l = false := by
  unfold Toks.sign; rw [show (S.K i == 4) = false by simpa using h]; simp
theorem small_of {S : Toks} {i : Nat} {l : List UInt8} (h : i < S.n ∧ S.K i = ((1 : Nat) : Int) ∧ (S.T i).data.toList = l) (hs : smallB l = true) : S.small i = true := by
  unfold Toks.small; rw [h.2.2, hs]; simp [h.1, h.2.1]
theorem great_of {S : Toks} {i : Nat} {l : List UInt8} (h : i < S.n ∧ S.K i = ((2 : Nat) : Int) ∧ (S.T i).data.toList = l) (hs : greatB l = true) : S.great i = true := by
  unfold Toks.great; rw [h.2.2, hs]; simp [h.1, h.2.1]
theorem begins_small {S : Toks} {i : Nat} (h : S.small i = true) : S.begins i = true := by
  unfold Toks.begins; rw [h]; simp [small_lt h]
theorem begins_great {S : Toks} {i : Nat} (h : S.great i = true) : S.begins i = true := by
  unfold Toks.begins; rw [h]; simp [great_lt h]
theorem begins_sign {S : Toks} {i : Nat} {l : List UInt8} (h : i < S.n ∧ S.K i = ((4 : Nat) : Int) ∧ (S.T i).data.toList = l) (hl : l = [123] ∨ l = [91] ∨ l = [40] ∨ l = [60]) : S.begins i = true := by
  unfold Toks.begins
  rw [h.2.2, h.2.1]
  rcases hl with rfl | rfl | rfl | rfl <;> simp [h.1]
theorem begins_base {S : Toks} {i : Nat} {l : List UInt8} (h : i < S.n ∧ S.K i = ((2 : Nat) : Int) ∧ (S.T i).data.toList = l) (hl : 0 < baseT l) : S.begins i = true := by
  unfold Toks.begins
  rw [h.2.2, h.2.1]
  simp [h.1, hl]
theorem base_great {l : List UInt8} (h : greatB l = true) : baseT l = 0 := by
  have hw := great_not_word h
  have h1 : l ≠ [73, 110, 116] := fun e => hw (by rw [e]; decide)
  have h2 : l ≠ [84, 101, 120, 116] := fun e => hw (by rw [e]; decide)
  have h3 : l ≠ [66, 111, 111, 108] := fun e => hw (by rw [e]; decide)
  have h4 : l ≠ [76, 105, 115, 116] := fun e => hw (by rw [e]; decide)
  unfold baseT
  rw [if_neg h1, if_neg h2, if_neg h3, if_neg h4]

theorem deep_pos (t : Ty) : 1 ≤ deep t := by cases t; simp [deep]
theorem deepL_le {t : Ty} : ∀ {l : List Ty}, t ∈ l → deep t ≤ deepL l
  | [], h => by cases h
  | a :: r, h => by
    rcases List.mem_cons.1 h with rfl | h
    · unfold deepL; omega
    · have := deepL_le h; unfold deepL; omega
theorem deepL_append : ∀ (a b : List Ty), deepL (a ++ b) = max (deepL a) (deepL b)
  | [], b => by simp [deepL]
  | t :: r, b => by simp only [List.cons_append, deepL, deepL_append r b]; omega

/-- A type's tokens: its text has them, they are read as it. -/
structure Shows (t : Ty) (tk : List Tk) : Prop where
  head : ∃ p r, tk = p :: r ∧ p.2 ≠ [41]
  lex : ∀ r ts, Halt r → Lexes r ts → Lexes (textT t ++ r) (tk ++ ts)
  read : ∀ (S : Toks) (f d i c : Nat), Stands S i tk → d + deep t ≤ 33 → c + many t ≤ 500 → 2 * (S.n - i) + 1 ≤ f → pT S f d i c = .ok t (i + tk.length) (c + many t)

/-- Is it a name of a field, of a case? -/
def nmOk (k : Int) (s : ByteArray) : Bool := if k = 5 then smallB s.data.toList else greatB s.data.toList
def nmTk (k : Int) (s : ByteArray) : Tk := (if k = 5 then 1 else 2, s.data.toList)
theorem name_of {S : Toks} {k : Int} {i : Nat} {s : ByteArray} (h : i < S.n ∧ S.K i = ((nmTk k s).1 : Int) ∧ (S.T i).data.toList = (nmTk k s).2) (hk : nmOk k s = true) : S.nameOk k i = true := by
  unfold Toks.nameOk
  unfold nmTk at h
  unfold nmOk at hk
  by_cases e : k = 5
  · rw [if_pos e] at hk ⊢
    rw [if_pos e] at h
    exact small_of h hk
  · rw [if_neg e] at hk ⊢
    rw [if_neg e] at h
    exact great_of h hk
theorem lex_name {k : Int} {s : ByteArray} {r : List UInt8} {ts : List Tk} (h : nmOk k s = true) (hr : Halt r) (hl : Lexes r ts) : Lexes (s.data.toList ++ r) (nmTk k s :: ts) := by
  unfold nmTk
  unfold nmOk at h
  by_cases e : k = 5
  · rw [if_pos e] at h ⊢; exact lex_small h hr hl
  · rw [if_neg e] at h ⊢; exact lex_great h hr hl
theorem nmTk_sign (k : Int) (s : ByteArray) : (((nmTk k s).1 : Nat) : Int) ≠ 4 := by
  unfold nmTk
  by_cases e : k = 5
  · rw [if_pos e]; simp
  · rw [if_neg e]; simp
theorem twice_not {P Q : List FdT} {p : FdT} (h : ((P ++ p :: Q).map (·.1)).Nodup) : twice p.1 (insN P) = false := by
  rw [twice_ins, List.any_eq_false]
  intro x hx e
  have e' : x.1 = p.1 := bytes_list.1 (by simpa using e)
  rw [List.map_append, List.map_cons, List.nodup_append] at h
  exact h.2.2 x.1 (List.mem_map_of_mem hx) p.1 (by simp) e'

set_option maxRecDepth 4000 in
theorem parts_show (k : Int) (z : UInt8) (hz : z = 125 ∨ z = 93) : ∀ (Q : List FdT), Q ≠ [] → (∀ p ∈ Q, nmOk k p.1 = true ∧ ∃ tk, Shows p.2 tk) →
    ∃ tk p0 tl, tk = nmTk k p0 :: tl ∧ (∀ r ts, Lexes r ts → Lexes (joinC (Q.map (partT true)) ++ z :: r) (tk ++ ts)) ∧
      ∀ (S : Toks) (f d i c : Nat) (P : List FdT), Stands S i tk → P.length + Q.length ≤ 20 → ((P ++ Q).map (·.1)).Nodup → d + 1 + deepL (Q.map (·.2)) ≤ 33 → c + manyL (Q.map (·.2)) ≤ 500 → 2 * (S.n - i) + 2 ≤ f →
        pParts S k [z] f d i c (insN P) (insS P) = .ok (.mk k ⟨#[]⟩ 0 ⟨#[]⟩ ⟨#[]⟩ (insN (P ++ Q)) (insS (P ++ Q))) (i + tk.length) (c + manyL (Q.map (·.2)))
  | [], h, _ => absurd rfl h
  | [p], _, h => by
    obtain ⟨hn, tk, hs⟩ := h p (by simp)
    refine ⟨nmTk k p.1 :: (4, [58]) :: (tk ++ [(4, [z])]), p.1, _, rfl, fun r ts hl => ?_, fun S f d i c P hS h20 hd hdeep hmany hf => ?_⟩
    · have l1 := hs.lex (z :: r) ((4, [z]) :: ts) (halt_cons (by rcases hz with rfl | rfl <;> decide)) (lex_sign (by rcases hz with rfl | rfl <;> simp) hl)
      have l2 := lex_name hn (halt_cons (by decide)) (lex_sign (c := 58) (by simp) (lex_space l1))
      simpa [joinC, tlC, partT] using l2
    · simp only [List.length_cons, List.length_nil] at h20
      simp only [List.map_cons, List.map_nil, deepL, manyL] at hdeep hmany
      have s0 := hS.head
      have s1 := hS.tail.head
      have sT := hS.tail.tail.left
      have sZ := (hS.tail.tail.right (a := tk)).head
      have eT : S.T i = p.1 := bytes_list.1 s0.2.2
      obtain ⟨f, rfl⟩ : ∃ g, f = g + 1 := ⟨f - 1, by omega⟩
      have hr := hs.read S f (d + 1) (i + 1 + 1) c sT (by omega) (by omega) (by omega)
      unfold pParts
      rw [if_neg (by rw [name_of s0 hn]; decide), if_neg (by rw [insN_len]; omega), eT, if_neg (by rw [twice_not hd]; decide), if_neg (by rw [sign_of s1]; decide), hr]
      dsimp only
      rw [if_pos (sign_of sZ), ← insN_snoc P p, ← insS_snoc P p]
      simp only [List.map_cons, List.map_nil, manyL, List.length_cons, List.length_append, List.length_nil, Res.ok.injEq, true_and]
      omega
  | p :: q :: Q, _, h => by
    obtain ⟨hn, tk, hs⟩ := h p (by simp)
    obtain ⟨tk', p0, tl', e', lex', read'⟩ := parts_show k z hz (q :: Q) (by simp) (fun x hx => h x (by simp [List.mem_cons.1 hx]))
    refine ⟨nmTk k p.1 :: (4, [58]) :: (tk ++ (4, [44]) :: tk'), p.1, _, rfl, fun r ts hl => ?_, fun S f d i c P hS h20 hd hdeep hmany hf => ?_⟩
    · have l0 := lex' r ts hl
      have l1 := hs.lex (44 :: 32 :: (joinC ((q :: Q).map (partT true)) ++ z :: r)) ((4, [44]) :: (tk' ++ ts)) (halt_cons (by decide)) (lex_sign (by simp) (lex_space l0))
      have l2 := lex_name hn (halt_cons (by decide)) (lex_sign (c := 58) (by simp) (lex_space l1))
      simpa [joinC, tlC, partT] using l2
    · simp only [List.length_cons] at h20
      rw [List.map_cons] at hdeep hmany
      simp only [deepL, manyL] at hdeep hmany
      have s0 := hS.head
      have s1 := hS.tail.head
      have sT := hS.tail.tail.left
      have sZ := (hS.tail.tail.right (a := tk)).head
      have sR := (hS.tail.tail.right (a := tk)).tail
      have eT : S.T i = p.1 := bytes_list.1 s0.2.2
      obtain ⟨f, rfl⟩ : ∃ g, f = g + 1 := ⟨f - 1, by omega⟩
      have hr := hs.read S f (d + 1) (i + 1 + 1) c sT (by omega) (by omega) (by omega)
      have hlt := sZ.1
      have hq := read' S f d (i + 1 + 1 + tk.length + 1) (c + many p.2) (P ++ [p]) sR (by simp; omega) (by simpa using hd) (by omega) (by omega) (by omega)
      unfold pParts
      rw [if_neg (by rw [name_of s0 hn]; decide), if_neg (by rw [insN_len]; omega), eT, if_neg (by rw [twice_not hd]; decide), if_neg (by rw [sign_of s1]; decide), hr]
      dsimp only
      rw [if_neg (by rw [sign_not sZ.2.2 (by rcases hz with rfl | rfl <;> decide)]; decide), if_neg (by rw [sign_of sZ]; decide), ← insN_snoc P p, ← insS_snoc P p, hq]
      simp only [List.append_assoc, List.cons_append, List.nil_append, List.map_cons, manyL, List.length_cons, List.length_append, Res.ok.injEq, true_and]
      omega

theorem end_lex {r : Ty} {tk : List Tk} (hs : Shows r tk) {x : List UInt8} {ts : List Tk} (hx : Halt x) (hl : Lexes x ts) : Lexes (41 :: 32 :: 45 :: 62 :: 32 :: (textT r ++ x)) ((4, [41]) :: (4, [45, 62]) :: (tk ++ ts)) :=
  lex_sign (by simp) (lex_space (lex_arrow (lex_space (hs.lex x ts hx hl))))
theorem end_read {r : Ty} {tk : List Tk} (hs : Shows r tk) {S : Toks} {f d i c : Nat} {ss : List Ty} (hS : Stands S i ((4, [45, 62]) :: tk)) (h20 : ss.length < 20) (hd : d + 1 + deep r ≤ 33) (hm : c + many r ≤ 500) (hf : 2 * (S.n - i) + 2 ≤ f) :
    pEnd S f d i c ss = .ok (.mk 7 ⟨#[]⟩ 0 ⟨#[]⟩ ⟨#[]⟩ [] (ss ++ [r])) (i + (tk.length + 1)) (c + many r) := by
  have s0 := hS.head
  obtain ⟨f, rfl⟩ : ∃ g, f = g + 1 := ⟨f - 1, by omega⟩
  have hr := hs.read S f (d + 1) (i + 1) c hS.tail (by omega) (by omega) (by omega)
  unfold pEnd
  rw [if_neg (by rw [sign_of s0]; decide), if_neg (by omega), hr]
  simp only [Res.ok.injEq, true_and, and_true]
  omega

theorem subs_show {r : Ty} {tkr : List Tk} (hr : Shows r tkr) : ∀ (L : List Ty), L ≠ [] → (∀ t ∈ L, ∃ tk, Shows t tk) →
    ∃ tk p tl, tk = p :: tl ∧ p.2 ≠ [41] ∧ (∀ x ts, Halt x → Lexes x ts → Lexes (joinC (L.map textT) ++ 41 :: 32 :: 45 :: 62 :: 32 :: (textT r ++ x)) (tk ++ ts)) ∧
      ∀ (S : Toks) (f d i c : Nat) (ss : List Ty), Stands S i tk → ss.length + L.length < 20 → d + 1 + max (deepL L) (deep r) ≤ 33 → c + manyL L + many r ≤ 500 → 2 * (S.n - i) + 2 ≤ f →
        pSubs S f d i c ss = .ok (.mk 7 ⟨#[]⟩ 0 ⟨#[]⟩ ⟨#[]⟩ [] (ss ++ L ++ [r])) (i + tk.length) (c + manyL L + many r)
  | [], h, _ => absurd rfl h
  | [t], _, h => by
    obtain ⟨tk, hs⟩ := h t (by simp)
    obtain ⟨p, tl, e, hp⟩ := hs.head
    refine ⟨tk ++ (4, [41]) :: (4, [45, 62]) :: tkr, p, _, by rw [e]; rfl, hp, fun x ts hx hl => ?_, fun S f d i c ss hS h20 hdeep hmany hf => ?_⟩
    · have l1 := hs.lex _ _ (halt_cons (by decide)) (end_lex hr hx hl)
      simpa [joinC, tlC] using l1
    · simp only [List.length_cons, List.length_nil] at h20
      simp only [deepL, manyL] at hdeep hmany
      have sZ := hS.right.head
      have sR := hS.right.tail
      have hlt := sZ.1
      obtain ⟨f, rfl⟩ : ∃ g, f = g + 1 := ⟨f - 1, by omega⟩
      have hd := hs.read S f (d + 1) i c hS.left (by omega) (by omega) (by omega)
      have he := end_read hr (ss := ss ++ [t]) (f := f) (d := d) (c := c + many t) sR (by simp; omega) (by omega) (by omega) (by omega)
      unfold pSubs
      rw [if_neg (by omega), hd]
      dsimp only
      rw [if_pos (sign_of sZ), he]
      simp only [manyL, List.length_cons, List.length_append, Res.ok.injEq, true_and]
      omega
  | t :: u :: L, _, h => by
    obtain ⟨tk, hs⟩ := h t (by simp)
    obtain ⟨p, tl, e, hp⟩ := hs.head
    obtain ⟨tk', -, -, -, -, lex', read'⟩ := subs_show hr (u :: L) (by simp) (fun x hx => h x (by simp [List.mem_cons.1 hx]))
    refine ⟨tk ++ (4, [44]) :: tk', p, _, by rw [e]; rfl, hp, fun x ts hx hl => ?_, fun S f d i c ss hS h20 hdeep hmany hf => ?_⟩
    · have l0 := lex' x ts hx hl
      have l1 := hs.lex _ _ (halt_cons (by decide)) (lex_sign (c := 44) (by simp) (lex_space l0))
      simpa [joinC, tlC] using l1
    · simp only [List.length_cons] at h20
      rw [manyL] at hmany
      rw [deepL] at hdeep
      have sZ := hS.right.head
      have sR := hS.right.tail
      have hlt := sZ.1
      obtain ⟨f, rfl⟩ : ∃ g, f = g + 1 := ⟨f - 1, by omega⟩
      have hd := hs.read S f (d + 1) i c hS.left (by omega) (by omega) (by omega)
      have hq := read' S f d (i + tk.length + 1) (c + many t) (ss ++ [t]) sR (by simp; omega) (by omega) (by omega) (by omega)
      unfold pSubs
      rw [if_neg (by omega), hd]
      dsimp only
      rw [if_neg (by rw [sign_not sZ.2.2 (by decide)]; decide), if_neg (by rw [sign_of sZ]; decide), hq]
      rw [show manyL (t :: u :: L) = many t + manyL (u :: L) from rfl]
      simp only [List.append_assoc, List.cons_append, List.nil_append, List.length_cons, List.length_append, Res.ok.injEq, true_and]
      omega

/-- Names that rise. -/
theorem own_rise {t : Ty} (h : ownOk t = true) : ∀ i, i + 1 < t.names.length → Op.bytesLess (nameAt t.names i).toList (nameAt t.names (i + 1)).toList = true := by
  intro i hi
  unfold ownOk at h
  simp only [Bool.and_eq_true] at h
  have hb := (namesOk_iff _ _).1 h.1.2 (i + 1) hi
  unfold badName at hb
  simp only [Bool.or_eq_false_iff] at hb
  have h3 := hb.2
  rw [leS_eq] at h3
  simpa using h3
theorem rise_lt {ns : List ByteArray} (h : ∀ i, i + 1 < ns.length → Op.bytesLess (nameAt ns i).toList (nameAt ns (i + 1)).toList = true) : ∀ (k i : Nat), i + k + 1 < ns.length → Op.bytesLess (nameAt ns i).toList (nameAt ns (i + k + 1)).toList = true
  | 0, i, hj => h i hj
  | k + 1, i, hj => bl_trans _ _ _ (rise_lt h k i (by omega)) (h (i + k + 1) (by omega))
theorem nameAt_get {ns : List ByteArray} {i : Nat} (h : i < ns.length) : nameAt ns i = ns[i] := by
  unfold nameAt; rw [List.getD_eq_getElem?_getD, List.getElem?_eq_getElem h]; rfl
theorem rise_pair {ns : List ByteArray} (h : ∀ i, i + 1 < ns.length → Op.bytesLess (nameAt ns i).toList (nameAt ns (i + 1)).toList = true) : ns.Pairwise fun x y => Op.bytesLess x.toList y.toList = true := by
  rw [List.pairwise_iff_getElem]
  intro i j hi hj hij
  have := rise_lt h (j - i - 1) i (by omega)
  rw [show i + (j - i - 1) + 1 = j by omega, nameAt_get hi, nameAt_get hj] at this
  exact this
theorem pair_nodup {ns : List ByteArray} (h : ns.Pairwise fun x y => Op.bytesLess x.toList y.toList = true) : ns.Nodup :=
  h.imp fun {x y} hxy e => by rw [e, bl_irrefl] at hxy; cases hxy
theorem zip_sorted {ns : List ByteArray} {ss : List Ty} (hl : ss.length = ns.length) (h : ns.Pairwise fun x y => Op.bytesLess x.toList y.toList = true) : insN (ns.zip ss) = ns ∧ insS (ns.zip ss) = ss := by
  have e1 : (ns.zip ss).map (·.1) = ns := List.map_fst_zip (by omega)
  have e2 : (ns.zip ss).map (·.2) = ss := List.map_snd_zip (by omega)
  have hs : (ns.zip ss).Pairwise leF := by
    have h' : ((ns.zip ss).map (·.1)).Pairwise fun x y => Op.bytesLess x.toList y.toList = true := by rw [e1]; exact h
    rw [List.pairwise_map] at h'
    refine h'.imp fun {x y} hxy => ?_
    show Op.bytesLess y.1.toList x.1.toList = false
    cases hb : Op.bytesLess y.1.toList x.1.toList with
    | false => rfl
    | true =>
      have := bl_trans _ _ _ hxy hb
      rw [bl_irrefl] at this; cases this
  obtain ⟨a, b⟩ := ins_sorted (List.Perm.refl (ns.zip ss)) hs (by rw [e1]; exact pair_nodup h)
  exact ⟨by rw [← a, e1], by rw [← b, e2]⟩
theorem zip_names {k : Int} {ns : List ByteArray} {ss : List Ty} (hn : ∀ i, i < ns.length → nmOk k (nameAt ns i) = true) : ∀ p ∈ ns.zip ss, nmOk k p.1 = true := by
  intro p hp
  obtain ⟨i, hi⟩ := List.getElem?_of_mem (List.of_mem_zip hp).1
  have hl := (List.getElem?_eq_some_iff.1 hi).1
  have := hn i hl
  rw [nameAt_get hl, (List.getElem?_eq_some_iff.1 hi).2] at this
  exact this

/-- A record, a variant, of names and types. -/
theorem fields_show (k : Int) (a z : UInt8) (haz : (k = 5 ∧ a = 123 ∧ z = 125) ∨ (k = 6 ∧ a = 91 ∧ z = 93)) {ns : List ByteArray} {ss : List Ty} (h20 : ss.length ≤ 20) (hl : ss.length = ns.length) (hne : ns ≠ []) (hn : ∀ i, i < ns.length → nmOk k (nameAt ns i) = true)
    (hrise : ns.Pairwise fun x y => Op.bytesLess x.toList y.toList = true) (hs : ∀ t ∈ ss, ∃ tk, Shows t tk) (htext : textT (.mk k ⟨#[]⟩ 0 ⟨#[]⟩ ⟨#[]⟩ ns ss) = a :: (joinC ((ns.zip ss).map (partT true)) ++ [z])) :
    ∃ tk, Shows (.mk k ⟨#[]⟩ 0 ⟨#[]⟩ ⟨#[]⟩ ns ss) tk := by
  have hz : z = 125 ∨ z = 93 := by rcases haz with h | h <;> simp [h.2.2]
  have ha : a = 123 ∨ a = 91 := by rcases haz with h | h <;> simp [h.2.1]
  have hQ : ns.zip ss ≠ [] := fun e => by
    have h1 := congrArg List.length e
    rw [List.length_zip, List.length_nil] at h1
    have h2 := List.length_pos_iff.2 hne
    omega
  obtain ⟨tk, p0, tl, e, lex, read⟩ := parts_show k z hz (ns.zip ss) hQ (fun p hp => ⟨zip_names hn p hp, hs p.2 (List.of_mem_zip hp).2⟩)
  have e1 : (ns.zip ss).map (·.1) = ns := List.map_fst_zip (by omega)
  have e2 : (ns.zip ss).map (·.2) = ss := List.map_snd_zip (by omega)
  rw [e2] at read
  obtain ⟨z1, z2⟩ := zip_sorted hl hrise
  refine ⟨(4, [a]) :: tk, ⟨(4, [a]), tk, rfl, by rcases ha with rfl | rfl <;> decide⟩, fun r ts _ hx => ?_, fun S f d i c hS hd hm hf => ?_⟩
  · have l1 := lex_sign (c := a) (by rcases ha with rfl | rfl <;> simp) (lex r ts hx)
    rw [htext]
    simpa using l1
  · rw [deep] at hd
    rw [many] at hm
    have s0 := hS.head
    have sN := hS.tail
    rw [e] at sN
    obtain ⟨f, rfl⟩ : ∃ g, f = g + 1 := ⟨f - 1, by omega⟩
    have hlt := s0.1
    have hr := read S f d (i + 1) (c + 1) [] hS.tail (by rw [List.length_zip]; simp; omega) (by rw [List.nil_append, e1]; exact pair_nodup hrise) (by omega) (by omega) (by omega)
    rw [List.nil_append, z1, z2] at hr
    have hr' : pParts S k [z] f d (i + 1) (c + 1) [] [] = _ := hr
    unfold pT
    rw [if_neg (by rw [begins_sign s0 (by rcases ha with rfl | rfl <;> simp)]; decide), if_neg (by omega), if_neg (by rw [s0.2.1]; simp), if_neg (by rw [s0.2.1]; simp), s0.2.2]
    rcases haz with ⟨rfl, rfl, rfl⟩ | ⟨rfl, rfl, rfl⟩
    · rw [if_pos rfl, if_neg (by rw [sign_kind (by rw [sN.head.2.1]; exact nmTk_sign _ _)]; decide), hr', many]
      simp only [List.length_cons, Res.ok.injEq, true_and]
      omega
    · rw [if_neg (by decide), if_pos rfl, hr', many]
      simp only [List.length_cons, Res.ok.injEq, true_and]
      omega

theorem own_twenty {t : Ty} (h : ownOk t = true) : t.subs.length ≤ 20 := by
  unfold ownOk at h
  simp only [Bool.and_eq_true, decide_eq_true_eq] at h
  exact h.1.1
theorem own_major {p d n : ByteArray} {m : Int} (h : ownOk (.mk 9 p m d n [] []) = true) : m ≤ 999999999 := by
  unfold ownOk shapeOk at h
  simp only [Bool.and_eq_true, Ty.kind, Ty.major] at h
  have h2 := h.2
  rw [if_neg (by decide), if_neg (by decide), if_neg (by decide), if_neg (by decide), if_neg (by decide), if_neg (by decide), if_pos trivial] at h2
  simp only [Bool.and_eq_true, decide_eq_true_eq] at h2
  exact of_decide_eq_true h2.2
theorem dec_major {m : Int} (h1 : 1 ≤ m) (h2 : m ≤ 999999999) : majorOk (dec m).data.toList = true ∧ digs (dec m).data.toList 0 = m := by
  have e : (dec m).data.toList = Lib.decDigits m.toNat := by simp [dec]
  rw [e]
  have hd := nd_digs _ m.toNat (Nat.lt_succ_self _)
  refine ⟨(majorOk_iff _).2 ⟨List.length_pos_iff.2 (nd_ne _), nd_len 8 _ (by omega), fun j hj => ?_, nd_head _ m.toNat (Nat.lt_succ_self _) (by omega)⟩, by rw [hd]; omega⟩
  have hm := nd_mem _ m.toNat (Nat.lt_succ_self _) _ (List.getElem_mem hj)
  have eb : bt (Lib.decDigits m.toNat) j = ((Lib.decDigits m.toNat)[j].toNat : Int) := by unfold bt; rw [List.getD_eq_getElem?_getD, List.getElem?_eq_getElem hj]; rfl
  rw [eb]
  unfold digC
  simp only [Bool.and_eq_true, decide_eq_true_eq]
  omega
end Go.Proofs.YtpfoclpgcbjjoaaGreatDoor.M

/- Plain mathematics for layer 6: the text of any type that may be is read as it. -/
namespace Go.Proofs.YtpfoclpgcbjjoaaGreatDoor.M
open Go

theorem sub_small {t s : Ty} (h : s ∈ t.subs) : many s < many t := by
  have := manyL_mem _ _ h
  cases t
  simp only [many, Ty.subs] at *
  omega

set_option maxRecDepth 4000 in
theorem shows_all : ∀ (N : Nat) (t : Ty), many t ≤ N → allOk t = true → ∃ tk, Shows t tk
  | 0, t, h, _ => by have := many_pos t; omega
  | N + 1, t, hN, ha => by
    have ho : ownOk t = true ∧ allOkL t.subs = true := by rw [allOk_eq] at ha; simpa using ha
    have IH : ∀ s ∈ t.subs, ∃ tk, Shows s tk := fun s hs => shows_all N s (by have := sub_small hs; omega) ((allOkL_mem _).1 ho.2 s hs)
    have h20 := own_twenty ho.1
    have hrise := own_rise ho.1
    rcases forms t ho.1 with ⟨k, hk, rfl⟩ | ⟨s, rfl⟩ | ⟨ns, ss, rfl, hl, hn⟩ | ⟨ns, ss, rfl, hl, hn⟩ | ⟨ss, rfl, hl⟩ | ⟨d, n, rfl, hn, hd⟩ | ⟨p, m, d, n, rfl, hp, hd, hn, hm⟩
    · have key : ∃ w, textT (.mk k ⟨#[]⟩ 0 ⟨#[]⟩ ⟨#[]⟩ [] []) = w ∧ baseT w = k ∧ upC (bt w 0) = true ∧ Word w ∧ w ≠ [41] := by
        rcases hk with rfl | rfl | rfl
        · exact ⟨[73, 110, 116], rfl, rfl, by decide, by unfold Word; decide, by decide⟩
        · exact ⟨[84, 101, 120, 116], rfl, rfl, by decide, by unfold Word; decide, by decide⟩
        · exact ⟨[66, 111, 111, 108], rfl, rfl, by decide, by unfold Word; decide, by decide⟩
      obtain ⟨w, ht, hb, hu, hw, hne⟩ := key
      refine ⟨[(2, w)], ⟨(2, w), [], rfl, hne⟩, fun r ts hr hx => by rw [ht]; exact lex_up hu hw hr hx, fun S f d i c hS hd hm hf => ?_⟩
      have s0 := hS.head
      simp only [deep, deepL] at hd
      simp only [many, manyL] at hm
      obtain ⟨f, rfl⟩ : ∃ g, f = g + 1 := ⟨f - 1, by omega⟩
      unfold pT
      rw [if_neg (by rw [begins_base s0 (by rw [hb]; omega)]; decide), if_neg (by omega), if_neg (by rw [s0.2.1]; simp), if_pos (by rw [s0.2.1]; rfl), s0.2.2]
      simp only [hb]
      rw [if_neg (by omega), if_pos (by omega)]
      rfl
    · obtain ⟨tk, hs⟩ := IH s (by simp [Ty.subs])
      refine ⟨(2, [76, 105, 115, 116]) :: (4, [40]) :: (tk ++ [(4, [41])]), ⟨_, _, rfl, by decide⟩, fun r ts hr hx => ?_, fun S f d i c hS hd hm hf => ?_⟩
      · have l1 := hs.lex (41 :: r) _ (halt_cons (by decide)) (lex_sign (c := 41) (by simp) hx)
        have l2 := lex_up (w := [76, 105, 115, 116]) (by decide) (by unfold Word; decide) (halt_cons (by decide)) (lex_sign (c := 40) (by simp) l1)
        simpa [textT, kindText, textsT] using l2
      · simp only [deep, deepL] at hd
        simp only [many, manyL] at hm
        have s0 := hS.head
        have s1 := hS.tail.head
        have sZ := (hS.tail.tail.right (a := tk)).head
        have hlt := s0.1
        obtain ⟨f, rfl⟩ : ∃ g, f = g + 1 := ⟨f - 1, by omega⟩
        have hr := hs.read S f (d + 1) (i + 1 + 1) (c + 1) hS.tail.tail.left (by omega) (by omega) (by omega)
        unfold pT
        rw [if_neg (by rw [begins_base s0 (by decide)]; decide), if_neg (by omega), if_neg (by rw [s0.2.1]; simp), if_pos (by rw [s0.2.1]; rfl), s0.2.2]
        rw [if_pos (by rfl), if_neg (by rw [sign_of s1]; decide), hr]
        dsimp only
        rw [if_neg (by rw [sign_of sZ]; decide)]
        simp only [many, manyL, List.length_cons, List.length_append, List.length_nil, Res.ok.injEq, true_and]
        omega
    · by_cases hne : ns = []
      · subst hne
        obtain rfl : ss = [] := List.length_eq_zero_iff.1 (by simpa using hl)
        refine ⟨[(4, [123]), (4, [125])], ⟨_, _, rfl, by decide⟩, fun r ts hr hx => lex_sign (c := 123) (by simp) (lex_sign (c := 125) (by simp) hx), fun S f d i c hS hd hm hf => ?_⟩
        have s0 := hS.head
        have s1 := hS.tail.head
        simp only [deep, deepL] at hd
        simp only [many, manyL] at hm
        obtain ⟨f, rfl⟩ : ∃ g, f = g + 1 := ⟨f - 1, by omega⟩
        unfold pT
        rw [if_neg (by rw [begins_sign s0 (by simp)]; decide), if_neg (by omega), if_neg (by rw [s0.2.1]; simp), if_neg (by rw [s0.2.1]; simp), s0.2.2, if_pos rfl, if_pos (sign_of s1)]
        rfl
      · refine fields_show 5 123 125 (.inl ⟨rfl, rfl, rfl⟩) h20 hl hne (fun i hi => by unfold nmOk; rw [if_pos rfl]; exact hn i hi) (rise_pair hrise) IH ?_
        rw [← row_zip ns ss hl]
        simp [textT, kindText, textsT_len]
    · by_cases hne : ns = []
      · exfalso
        subst hne
        have := ho.1
        unfold ownOk shapeOk at this
        obtain rfl : ss = [] := List.length_eq_zero_iff.1 (by simpa using hl)
        simp [Ty.kind, Ty.subs] at this
      · refine fields_show 6 91 93 (.inr ⟨rfl, rfl, rfl⟩) h20 hl hne (fun i hi => by unfold nmOk; rw [if_neg (by decide)]; exact hn i hi) (rise_pair hrise) IH ?_
        rw [← row_zip ns ss hl]
        simp [textT, kindText, textsT_len]
    · obtain ⟨L, r, rfl⟩ : ∃ L r, ss = L ++ [r] := ⟨ss.dropLast, ss.getLast (fun e => by subst e; simp at hl), (List.dropLast_concat_getLast _).symm⟩
      have e1 : textT (.mk 7 ⟨#[]⟩ 0 ⟨#[]⟩ ⟨#[]⟩ [] (L ++ [r])) = 40 :: (joinC (L.map textT) ++ 41 :: 32 :: 45 :: 62 :: 32 :: textT r) := by
        show [40] ++ rowOf (textsT (L ++ [r])) [] ((textsT (L ++ [r])).length - 1) ++ [41, 32, 45, 62, 32] ++ (textsT (L ++ [r])).getD ((textsT (L ++ [r])).length - 1) [] = _
        rw [textsT_len, show (L ++ [r]).length - 1 = L.length by simp, textsT_at _ L.length r (by simp), row_plain _ L.length (by simp)]
        simp [partT, Function.comp_def]
      obtain ⟨tkr, hr⟩ := IH r (by simp [Ty.subs])
      have h20' : (L ++ [r]).length ≤ 20 := h20
      rw [List.length_append, List.length_singleton] at h20'
      by_cases hL : L = []
      · subst hL
        refine ⟨(4, [40]) :: (4, [41]) :: (4, [45, 62]) :: tkr, ⟨_, _, rfl, by decide⟩, fun x ts hx hl => ?_, fun S f d i c hS hd hm hf => ?_⟩
        · rw [e1]
          have l1 := lex_sign (c := 40) (by simp) (end_lex hr hx hl)
          simpa [joinC] using l1
        · simp only [List.nil_append, deep, deepL] at hd
          simp only [List.nil_append, many, manyL] at hm
          have s0 := hS.head
          have s1 := hS.tail.head
          have hlt := s1.1
          obtain ⟨f, rfl⟩ : ∃ g, f = g + 1 := ⟨f - 1, by omega⟩
          have he := end_read hr (ss := []) (f := f) (d := d) (c := c + 1) hS.tail.tail (by simp) (by omega) (by omega) (by omega)
          unfold pT
          rw [if_neg (by rw [begins_sign s0 (by simp)]; decide), if_neg (by omega), if_neg (by rw [s0.2.1]; simp), if_neg (by rw [s0.2.1]; simp), s0.2.2, if_neg (by decide), if_neg (by decide), if_neg (by decide), if_pos (sign_of s1)]
          rw [show i + 2 = i + 1 + 1 by omega, he]
          simp only [many, manyL, List.nil_append, List.length_cons, Res.ok.injEq, true_and]
          omega
      · obtain ⟨tk, p, tl, e, hp, lex, read⟩ := subs_show hr L hL (fun t ht => IH t (by simp [Ty.subs, ht]))
        refine ⟨(4, [40]) :: tk, ⟨_, _, rfl, by decide⟩, fun x ts hx hl => ?_, fun S f d i c hS hd hm hf => ?_⟩
        · rw [e1]
          have l1 := lex_sign (c := 40) (by simp) (lex x ts hx hl)
          simpa using l1
        · simp only [deep, deepL_append, deepL] at hd
          simp only [many, manyL_append, manyL] at hm
          have s0 := hS.head
          have sN := hS.tail
          rw [e] at sN
          have hlt := s0.1
          obtain ⟨f, rfl⟩ : ∃ g, f = g + 1 := ⟨f - 1, by omega⟩
          have hq := read S f d (i + 1) (c + 1) [] hS.tail (by simp; omega) (by omega) (by omega) (by omega)
          unfold pT
          rw [if_neg (by rw [begins_sign s0 (by simp)]; decide), if_neg (by omega), if_neg (by rw [s0.2.1]; simp), if_neg (by rw [s0.2.1]; simp), s0.2.2, if_neg (by decide), if_neg (by decide), if_neg (by decide), if_neg (by rw [sign_not sN.head.2.2 hp]; decide), hq]
          simp only [many, manyL_append, manyL, List.nil_append, List.length_cons, Res.ok.injEq, true_and]
          omega
    · rcases hd with hd | rfl
      · have hz : d.size ≠ 0 := fun e => spell_ne (small_spell hd) (List.length_eq_zero_iff.1 (by rw [len_size]; exact e))
        refine ⟨[(1, d.data.toList), (4, [46]), (2, n.data.toList)], ⟨_, _, rfl, fun e => by have e : d.data.toList = [41] := e; rw [e] at hd; revert hd; decide⟩, fun r ts hr hx => ?_, fun S f dd i c hS hdd hm hf => ?_⟩
        · have l1 := lex_great hn hr hx
          have hu := ((spell_iff _ _ _).1 (great_spell hn)).2.2.1
          have l2 : Lexes (46 :: (n.data.toList ++ r)) ((4, [46]) :: (2, n.data.toList) :: ts) := .sign (by decide) (by
            rw [bt_app0 (spell_ne (great_spell hn))]
            unfold upC at hu
            simp only [Bool.and_eq_true, decide_eq_true_eq] at hu
            have h46 : bt n.data.toList 0 ≠ 46 := by omega
            simp [twoC, h46]) l1
          have l3 := lex_small hd (halt_cons (by decide)) l2
          simpa [textT, kindText, hz] using l3
        · have s0 := hS.head
          have s1 := hS.tail.head
          have s2 := hS.tail.tail.head
          simp only [deep, deepL] at hdd
          simp only [many, manyL] at hm
          obtain ⟨f, rfl⟩ : ∃ g, f = g + 1 := ⟨f - 1, by omega⟩
          unfold pT
          rw [if_neg (by rw [begins_small (small_of s0 hd)]; decide), if_neg (by omega), if_pos (by rw [s0.2.1]; rfl)]
          unfold pLocal
          rw [if_neg (by rw [sign_of s1]; decide), if_neg (by rw [great_of s2 hn]; decide), bytes_list.1 s0.2.2, bytes_list.1 s2.2.2]
          rfl
      · refine ⟨[(2, n.data.toList)], ⟨_, _, rfl, fun e => by have e : n.data.toList = [41] := e; rw [e] at hn; revert hn; decide⟩, fun r ts hr hx => ?_, fun S f dd i c hS hdd hm hf => ?_⟩
        · have l1 := lex_great hn hr hx
          simpa [textT, kindText, empty_is] using l1
        · have s0 := hS.head
          simp only [deep, deepL] at hdd
          simp only [many, manyL] at hm
          obtain ⟨f, rfl⟩ : ∃ g, f = g + 1 := ⟨f - 1, by omega⟩
          unfold pT
          rw [if_neg (by rw [begins_great (great_of s0 hn)]; decide), if_neg (by omega), if_neg (by rw [s0.2.1]; simp), if_pos (by rw [s0.2.1]; rfl), bytes_list.1 s0.2.2]
          rw [if_neg (by rw [base_great hn]; decide), if_neg (by rw [base_great hn]; decide)]
          rfl
    · have hb := own_major ho.1
      obtain ⟨m1, m2⟩ := dec_major hm hb
      refine ⟨[(4, [60]), (1, p.data.toList), (3, (dec m).data.toList), (1, d.data.toList), (2, n.data.toList), (4, [62])], ⟨_, _, rfl, by decide⟩, fun r ts hr hx => ?_, fun S f dd i c hS hdd hmm hf => ?_⟩
      · have l0 := lex_great hn (halt_cons (by decide)) (lex_sign (c := 62) (by simp) hx)
        have l1 := lex_small hd (halt_cons (by decide)) (lex_space l0)
        have l2 := lex_dec (m := m) (halt_cons (by decide)) (lex_space l1)
        have l3 := lex_small hp (halt_cons (by decide)) (lex_space l2)
        have l4 := lex_sign (c := 60) (by simp) l3
        simpa [textT, kindText] using l4
      · have s0 := hS.head
        have s1 := hS.tail.head
        have s2 := hS.tail.tail.head
        have s3 := hS.tail.tail.tail.head
        have s4 := hS.tail.tail.tail.tail.head
        have s5 := hS.tail.tail.tail.tail.tail.head
        simp only [deep, deepL] at hdd
        simp only [many, manyL] at hmm
        obtain ⟨f, rfl⟩ : ∃ g, f = g + 1 := ⟨f - 1, by omega⟩
        have hM : S.major (i + 1 + 1) = true := by
          unfold Toks.major
          rw [s2.2.2, m1, s2.2.1]
          simp [s2.1]
        unfold pT
        rw [if_neg (by rw [begins_sign s0 (by simp)]; decide), if_neg (by omega), if_neg (by rw [s0.2.1]; simp), if_neg (by rw [s0.2.1]; simp), s0.2.2, if_neg (by decide), if_neg (by decide), if_pos rfl]
        unfold pOpen
        rw [if_neg (by rw [small_of s1 hp]; decide), if_neg (by rw [hM]; decide), if_neg (by rw [small_of s3 hd]; decide), if_neg (by rw [great_of s4 hn]; decide), if_neg (by rw [sign_of s5]; decide)]
        rw [show (S.T (i + 1 + 1)).data.toList = (dec m).data.toList from s2.2.2, m2, bytes_list.1 s1.2.2]
        rw [show S.T (i + 1 + 2) = d from bytes_list.1 s3.2.2, show S.T (i + 1 + 3) = n from bytes_list.1 s4.2.2]
        rfl

end Go.Proofs.YtpfoclpgcbjjoaaGreatDoor.M

/- Plain mathematics for layer 6: a module's text is read as it. -/
namespace Go.Proofs.YtpfoclpgcbjjoaaGreatDoor
open Go
open M

theorem key_of {S : Toks} {i : Nat} {l : List UInt8} (h : i < S.n ∧ S.K i = ((1 : Nat) : Int) ∧ (S.T i).data.toList = l) : keyS S i l = true := by
  unfold keyS; simp [h.1, h.2.1, h.2.2]
theorem key_not {S : Toks} {i : Nat} {l m : List UInt8} (h : (S.T i).data.toList = m) (hne : m ≠ l) : keyS S i l = false := by
  unfold keyS; rw [h, show (m == l) = false by simpa using hne]; simp
theorem key_end {S : Toks} {i : Nat} {l : List UInt8} (h : S.n ≤ i) : keyS S i l = false := by
  unfold keyS; rw [show decide (i < S.n) = false by simp; omega]; simp
theorem major_of {S : Toks} {i : Nat} {m : Int} (h : i < S.n ∧ S.K i = ((3 : Nat) : Int) ∧ (S.T i).data.toList = (dec m).data.toList) (h1 : 1 ≤ m) (h2 : m ≤ 999999999) : S.major i = true := by
  unfold Toks.major
  rw [h.2.2, (dec_major h1 h2).1, h.2.1]
  simp [h.1]

/-- An import's tokens. -/
def impTk (x : Im) : List Tk := [(1, kImport), (1, x.pkg.data.toList), (3, (dec x.major).data.toList), (1, x.mod.data.toList), (1, kAs), (1, x.asn.data.toList)]
theorem mayI_parts {x : Im} (h : mayI x = true) : smallB x.pkg.data.toList = true ∧ smallB x.mod.data.toList = true ∧ smallB x.asn.data.toList = true ∧ 1 ≤ x.major ∧ x.major ≤ 999999999 := by
  unfold mayI at h
  simp only [Bool.and_eq_true, decide_eq_true_eq] at h
  exact ⟨h.1, h.2.1, h.2.2.1, h.2.2.2.1, h.2.2.2.2⟩
theorem imp_lex {x : Im} (h : mayI x = true) {r : List UInt8} {ts : List Tk} (hl : Lexes r ts) : Lexes ((txI x).data.toList ++ r) (impTk x ++ ts) := by
  obtain ⟨h1, h2, h3, -, -⟩ := mayI_parts h
  have l0 := lex_small h3 (halt_cons (by decide)) (lex_line hl)
  have l1 := lex_low (w := kAs) (by decide) (by unfold Word; decide) (halt_cons (by decide)) (lex_space l0)
  have l2 := lex_small h2 (halt_cons (by decide)) (lex_space l1)
  have l3 := lex_dec (m := x.major) (halt_cons (by decide)) (lex_space l2)
  have l4 := lex_small h1 (halt_cons (by decide)) (lex_space l3)
  have l5 := lex_low (w := kImport) (by decide) (by unfold Word; decide) (halt_cons (by decide)) (lex_space l4)
  simpa [txI, impTk, kAs, kImport] using l5
theorem imp_read {x : Im} (h : mayI x = true) {S : Toks} {i : Nat} (hS : Stands S i (impTk x)) : keyS S i kImport = true ∧ impR S (i + 1) = .ok x (i + 6) 0 := by
  obtain ⟨h1, h2, h3, h4, h5⟩ := mayI_parts h
  have s0 := hS.head
  have s1 := hS.tail.head
  have s2 := hS.tail.tail.head
  have s3 := hS.tail.tail.tail.head
  have s4 := hS.tail.tail.tail.tail.head
  have s5 := hS.tail.tail.tail.tail.tail.head
  refine ⟨key_of s0, ?_⟩
  unfold impR
  rw [if_neg (by rw [small_of s1 h1]; decide), if_neg (by rw [major_of s2 h4 h5]; decide), if_neg (by rw [small_of s3 h2]; decide), if_neg (by rw [key_of s4]; decide), if_neg (by rw [small_of s5 h3]; decide)]
  rw [show (S.T (i + 1 + 1)).data.toList = (dec x.major).data.toList from s2.2.2, (dec_major h4 h5).2, bytes_list.1 s1.2.2, show S.T (i + 1 + 2) = x.mod from bytes_list.1 s3.2.2, show S.T (i + 1 + 4) = x.asn from bytes_list.1 s5.2.2]

def impsTk : List Im → List Tk
  | [] => []
  | x :: xs => impTk x ++ impsTk xs
theorem imps_lex : ∀ {xs : List Im}, (∀ x ∈ xs, mayI x = true) → ∀ {r : List UInt8} {ts : List Tk}, Lexes r ts → Lexes (textI xs ++ r) (impsTk xs ++ ts)
  | [], _, r, ts, hl => hl
  | x :: xs, h, r, ts, hl => by
    have := imp_lex (h x (by simp)) (imps_lex (xs := xs) (fun y hy => h y (by simp [hy])) hl)
    simpa [textI, impsTk] using this
theorem imps_read : ∀ {xs : List Im}, (∀ x ∈ xs, mayI x = true) → ∀ {S : Toks} {f i : Nat} {l : List Im}, Stands S i (impsTk xs) → keyS S (i + (impsTk xs).length) kImport = false → l.length + xs.length ≤ 20 → xs.length + 1 ≤ f →
    impsR S f i l = .ok (l ++ xs) (i + (impsTk xs).length) 0
  | [], _, S, f, i, l, _, hk, _, hf => by
    obtain ⟨f, rfl⟩ : ∃ g, f = g + 1 := ⟨f - 1, by simp at hf; omega⟩
    unfold impsR
    rw [if_pos (by simpa [impsTk] using hk)]
    simp [impsTk]
  | x :: xs, h, S, f, i, l, hS, hk, h20, hf => by
    simp only [List.length_cons] at h20 hf
    obtain ⟨f, rfl⟩ : ∃ g, f = g + 1 := ⟨f - 1, by omega⟩
    obtain ⟨r1, r2⟩ := imp_read (h x (by simp)) (Stands.left (b := impsTk xs) hS)
    have e6 : (impTk x).length = 6 := rfl
    have el : (impsTk (x :: xs)).length = 6 + (impsTk xs).length := by show (impTk x ++ impsTk xs).length = _; rw [List.length_append, e6]
    have ih := imps_read (xs := xs) (fun y hy => h y (by simp [hy])) (S := S) (f := f) (i := i + 6) (l := l ++ [x]) (Stands.right (a := impTk x) hS) (by rw [el] at hk; rw [show i + 6 + (impsTk xs).length = i + (6 + (impsTk xs).length) by omega]; exact hk) (by simp; omega) (by omega)
    unfold impsR
    rw [if_neg (by rw [r1]; decide), if_neg (by omega), r2]
    dsimp only
    rw [ih, el]
    simp only [List.append_assoc, List.cons_append, List.nil_append, Res.ok.injEq, true_and, and_true]
    omega

/-- A declaration's tokens: its text has them, they are read as it. -/
structure ShowsD (d : De) (tk : List Tk) : Prop where
  head : ∃ p r, tk = p :: r ∧ p.2 ≠ kImport
  lex : ∀ r ts, Lexes r ts → Lexes ((txD d).data.toList ++ r) (tk ++ ts)
  read : ∀ (S : Toks) (i n : Nat), Stands S i tk → n < 60 → oneD S i n = .ok d (i + tk.length) 0
theorem decl_of {S : Toks} {i : Nat} {l : List UInt8} (h : i < S.n ∧ S.K i = ((1 : Nat) : Int) ∧ (S.T i).data.toList = l) : declAt S i = declK l := by
  unfold declAt; rw [if_pos h.1, h.2.2]
theorem at_read {t : Ty} {tk : List Tk} (hs : Shows t tk) (hm : mayT t = true) {S : Toks} {i : Nat} (hS : Stands S i tk) : ∃ c, atR S i = .ok t (i + tk.length) c := by
  unfold mayT at hm
  simp only [Bool.and_eq_true, decide_eq_true_eq] at hm
  exact ⟨_, hs.read S _ 1 i 0 hS (by omega) (by omega) (by omega)⟩
theorem may_allOk {t : Ty} (h : mayT t = true) : allOk t = true := by
  unfold mayT at h
  simp only [Bool.and_eq_true] at h
  exact h.1.1
theorem dec_show {d : De} (h : mayD d = true) : ∃ tk, ShowsD d tk := by
  obtain ⟨k, s, t⟩ := d
  unfold mayD at h
  dsimp only at h
  by_cases h12 : k = 1 ∨ k = 2
  · rw [if_pos h12] at h
    simp only [Bool.and_eq_true] at h
    obtain rfl : t = noT := (sameT_iff _ _).1 h.2
    have hn := h.1
    have hread : ∀ (w : List UInt8), declK w = k → ∀ (S : Toks) (i n : Nat), Stands S i [(1, w), (2, s.data.toList)] → n < 60 → oneD S i n = .ok ⟨k, s, noT⟩ (i + 2) 0 := by
      intro w hw S i n hS hlt
      have s0 := hS.head
      have s1 := hS.tail.head
      unfold oneD
      rw [decl_of s0, hw, if_neg (by omega), if_neg (by omega)]
      unfold decR
      rw [if_pos h12, if_neg (by rw [great_of s1 hn]; decide), bytes_list.1 s1.2.2]
    rcases h12 with rfl | rfl
    · refine ⟨[(1, [111, 112, 97, 113, 117, 101]), (2, s.data.toList)], ⟨_, _, rfl, by decide⟩, fun r ts hl => ?_, hread _ rfl⟩
      have l0 := lex_great hn (halt_cons (by decide)) (lex_line hl)
      have l1 := lex_low (w := [111, 112, 97, 113, 117, 101]) (by decide) (by unfold Word; decide) (halt_cons (by decide)) (lex_space l0)
      simpa [txD] using l1
    · refine ⟨[(1, [104, 105, 100, 100, 101, 110]), (2, s.data.toList)], ⟨_, _, rfl, by decide⟩, fun r ts hl => ?_, hread _ rfl⟩
      have l0 := lex_great hn (halt_cons (by decide)) (lex_line hl)
      have l1 := lex_low (w := [104, 105, 100, 100, 101, 110]) (by decide) (by unfold Word; decide) (halt_cons (by decide)) (lex_space l0)
      simpa [txD] using l1
  · rw [if_neg h12] at h
    by_cases h3 : k = 3
    · subst h3
      rw [if_pos rfl] at h
      simp only [Bool.and_eq_true] at h
      obtain ⟨hn, hm⟩ := h
      obtain ⟨tk, hs⟩ := shows_all _ t (Nat.le_refl _) (may_allOk hm)
      refine ⟨(1, [97, 108, 105, 97, 115]) :: (2, s.data.toList) :: (4, [61]) :: tk, ⟨_, _, rfl, by decide⟩, fun r ts hl => ?_, fun S i n hS hlt => ?_⟩
      · have l0 := hs.lex (10 :: r) ts (halt_cons (by decide)) (lex_line hl)
        have l1 := lex_great hn (halt_cons (by decide)) (lex_space (lex_sign (c := 61) (by simp) (lex_space l0)))
        have l2 := lex_low (w := [97, 108, 105, 97, 115]) (by decide) (by unfold Word; decide) (halt_cons (by decide)) (lex_space l1)
        simpa [txD, tB] using l2
      · have s0 := hS.head
        have s1 := hS.tail.head
        have s2 := hS.tail.tail.head
        obtain ⟨c, ha⟩ := at_read hs hm hS.tail.tail.tail
        unfold oneD
        rw [decl_of s0, show declK [97, 108, 105, 97, 115] = 3 from rfl, if_neg (by decide), if_neg (by omega)]
        unfold decR
        rw [if_neg (by decide), if_pos rfl, if_neg (by rw [great_of s1 hn]; decide), if_neg (by rw [sign_of s2]; decide), bytes_list.1 s1.2.2]
        rw [show i + 1 + 2 = i + 1 + 1 + 1 by omega, ha]
        simp only [typD, List.length_cons, Res.ok.injEq, true_and, and_true]
        omega
    · rw [if_neg h3] at h
      by_cases h4 : k = 4
      · subst h4
        rw [if_pos rfl] at h
        simp only [Bool.and_eq_true] at h
        obtain ⟨hn, hm⟩ := h
        obtain ⟨tk, hs⟩ := shows_all _ t (Nat.le_refl _) (may_allOk hm)
        refine ⟨(1, [118, 97, 108]) :: (1, s.data.toList) :: (4, [58]) :: tk, ⟨_, _, rfl, by decide⟩, fun r ts hl => ?_, fun S i n hS hlt => ?_⟩
        · have l0 := hs.lex (10 :: r) ts (halt_cons (by decide)) (lex_line hl)
          have l1 := lex_small hn (halt_cons (by decide)) (lex_space (lex_sign (c := 58) (by simp) (lex_space l0)))
          have l2 := lex_low (w := [118, 97, 108]) (by decide) (by unfold Word; decide) (halt_cons (by decide)) (lex_space l1)
          simpa [txD, tB] using l2
        · have s0 := hS.head
          have s1 := hS.tail.head
          have s2 := hS.tail.tail.head
          obtain ⟨c, ha⟩ := at_read hs hm hS.tail.tail.tail
          unfold oneD
          rw [decl_of s0, show declK [118, 97, 108] = 4 from rfl, if_neg (by decide), if_neg (by omega)]
          unfold decR
          rw [if_neg (by decide), if_neg (by decide), if_neg (by rw [small_of s1 hn]; decide), if_neg (by rw [sign_of s2]; decide), bytes_list.1 s1.2.2]
          rw [show i + 1 + 2 = i + 1 + 1 + 1 by omega, ha]
          simp only [typD, List.length_cons, Res.ok.injEq, true_and, and_true]
          omega
      · rw [if_neg h4] at h
        cases h

theorem decs_show : ∀ (ds : List De), (∀ d ∈ ds, mayD d = true) → ∃ tk : List Tk, (tk = [] ∧ ds = [] ∨ ∃ p r, tk = p :: r ∧ p.2 ≠ kImport) ∧ (∀ r ts, Lexes r ts → Lexes (textD ds ++ r) (tk ++ ts)) ∧
    ∀ (S : Toks) (f i : Nat) (l : List De), Stands S i tk → i + tk.length = S.n → l.length + ds.length ≤ 60 → ds.length + 1 ≤ f → decsR S f i l = .ok (l ++ ds) S.n 0
  | [], _ => ⟨[], .inl ⟨rfl, rfl⟩, fun r ts hl => hl, fun S f i l _ hn _ hf => by
    obtain ⟨f, rfl⟩ : ∃ g, f = g + 1 := ⟨f - 1, by simp at hf; omega⟩
    simp at hn
    unfold decsR
    rw [if_pos (by omega), hn]; simp⟩
  | d :: ds, h => by
    obtain ⟨tk, hs⟩ := dec_show (h d (by simp))
    obtain ⟨tk', -, lex', read'⟩ := decs_show ds (fun y hy => h y (by simp [hy]))
    obtain ⟨p, r, e, hp⟩ := hs.head
    refine ⟨tk ++ tk', .inr ⟨p, r ++ tk', by rw [e]; rfl, hp⟩, fun r ts hl => ?_, fun S f i l hS hn h60 hf => ?_⟩
    · have := hs.lex _ _ (lex' r ts hl)
      simpa [textD] using this
    · simp only [List.length_cons] at h60 hf
      rw [List.length_append] at hn
      obtain ⟨f, rfl⟩ : ∃ g, f = g + 1 := ⟨f - 1, by omega⟩
      have hl : 0 < tk.length := by rw [e]; simp
      have ho := hs.read S i l.length hS.left (by omega)
      have ih := read' S f (i + tk.length) (l ++ [d]) hS.right (by omega) (by simp; omega) (by omega)
      unfold decsR
      rw [if_neg (by omega), ho]
      dsimp only
      rw [ih]; simp

/-- A module's text is read as it. -/
theorem parM_back {m : Mo} (h : mayM m = true) : ∃ j, parM ⟨(textM m).toArray⟩ = .ok m j 0 := by
  have hn : smallB m.name.data.toList = true := by unfold mayM at h; simp only [Bool.and_eq_true] at h; exact h.1
  obtain ⟨-, h20, h60, hi, hd⟩ := mayM_bd h
  obtain ⟨tk, hh, lex, read⟩ := decs_show m.decs hd
  have l0 := imps_lex hi (lex [] [] .nil)
  have l1 := lex_small hn (halt_cons (by decide)) (lex_line l0)
  have l2 := lex_low (w := kModule) (by decide) (by unfold Word; decide) (halt_cons (by decide)) (lex_space l1)
  have l3 : Lexes (textM m) ((1, kModule) :: (1, m.name.data.toList) :: (impsTk m.imps ++ tk)) := by
    simpa [textM, headM, kModule] using l2
  obtain ⟨T, hT, hm⟩ := lexes_fin l3 ⟨(textM m).toArray⟩ 0 [] (by simp) (Nat.zero_le _)
  rw [List.nil_append] at hT
  rw [parM_yes hT]
  have hlen : T.length = ((1, kModule) :: (1, m.name.data.toList) :: (impsTk m.imps ++ tk) : List Tk).length := by rw [← hm]; simp
  have hS : Stands (tkS T) 0 ((1, kModule) :: (1, m.name.data.toList) :: (impsTk m.imps ++ tk)) := by
    intro j p hp
    rw [← hm, List.getElem?_map] at hp
    obtain ⟨x, hx, rfl⟩ := Option.map_eq_some_iff.1 hp
    have hj := (List.getElem?_eq_some_iff.1 hx).1
    rw [Nat.zero_add]
    refine ⟨hj, ?_, ?_⟩
    · show ((T[j]?).map (fun t : Tok => (t.kind : Int))).getD 0 = _
      rw [hx]; rfl
    · show (((T[j]?).map (fun t : Tok => t.text)).getD ⟨#[]⟩).data.toList = _
      rw [hx]; rfl
  have hN : (tkS T).n = 2 + ((impsTk m.imps).length + tk.length) := by show T.length = _; rw [hlen]; simp; omega
  have s0 := hS.head
  have s1 := hS.tail.head
  have sI := hS.tail.tail.left
  have sD := hS.tail.tail.right
  have hk : keyS (tkS T) (0 + 1 + 1 + (impsTk m.imps).length) kImport = false := by
    rcases hh with ⟨e, -⟩ | ⟨p, r, e, hp⟩
    · rw [e] at hN
      exact key_end (by rw [hN]; simp only [List.length_nil]; omega)
    · rw [e] at sD
      exact key_not sD.head.2.2 hp
  have r1 := imps_read hi (f := 21) (l := []) sI hk (by simpa using h20) (by omega)
  have r2 := read (tkS T) 61 _ [] sD (by rw [hN]; omega) (by simpa using h60) (by omega)
  unfold modR
  rw [if_neg (by rw [key_of s0]; decide), if_neg (by rw [small_of s1 hn]; decide), show (2 : Nat) = 0 + 1 + 1 from rfl, r1, show (tkS T).T 1 = m.name from bytes_list.1 s1.2.2]
  unfold restM
  dsimp only
  rw [r2]
  exact ⟨_, rfl⟩

end Go.Proofs.YtpfoclpgcbjjoaaGreatDoor
