/-
  Several texts in one.
-/
import Derived.Test.YtddlmigofilejaaGreatK17
import Derived.ChangeSame
import Derived.WideKeyArgs
import Derived.Test.YtddlmigofilejaaGreatRows
set_option maxRecDepth 100000
set_option maxHeartbeats 16000000
namespace Go.Proofs.YtddlmigofilejaaGreat
open Go Go.RowKit Go.Shelf
open Go.Sort
open M
theorem oneP_ge (t : Bool) (s : ByteArray) (a b : List Nm) : 0 <= oneP t s a b := by
 unfold oneP
 split
 ·decide
 ·split
  ·decide
  ·split
   ·decide
   ·split <;> decide
theorem chP_kind {a b : List If} : ∀ x ∈ chP a b, 1 <= x.kind := fun x hx => by
 obtain ⟨-, -, h1, h2⟩ := mem_chP.1 hx
 have := oneP_ge x.ofT x.name (rowP a x.mod x.ofT) (rowP b x.mod x.ofT)
 omega
theorem bumpTells_any (A : Option Addr) (ca : Nat) (B : Option Addr) (cb : Nat) (a b : List If) (w : World) (hA : RowIn ifR w A a) (hB : RowIn ifR w B b) (hla : a.length <= 9223372036854775807) (hlb : b.length <= 9223372036854775807) :
  Calls Tryz.prog 3 #[.slice A a.length ca, .slice B b.length cb] w fun e w' => e = .returned (.bool true) /\ Below w.heap.size w w' := by
 have UP := hZ (up12_any w)
 obtain ⟨qa, hqa⟩ : ∃ q, fewE a = q := ⟨_, rfl⟩
 obtain ⟨qb, hqb⟩ : ∃ q, fewE b = q := ⟨_, rfl⟩
 obtain ⟨f, hf⟩ : ∃ f, fairP a b = f := ⟨_, rfl⟩
 have HF := hZ hf
 have FA : Hid (∀ wx, Below w.heap.size w wx -> Calls Tryz.prog 6 #[.slice A a.length ca] wx fun e w' => e = .returned (.bool qa) /\ Below wx.heap.size wx w') := hZ (fun wx hb => by rw [<- hqa]; exact rfew8_any A ca a wx (hA.below hb) hla)
 have FB : Hid (∀ wx, Below w.heap.size w wx -> Calls Tryz.prog 6 #[.slice B b.length cb] wx fun e w' => e = .returned (.bool qb) /\ Below wx.heap.size wx w') := hZ (fun wx hb => by rw [<- hqb]; exact rfew8_any B cb b wx (hB.below hb) hlb)
 cases qa with
 | false =>
  obtain ⟨na, hna⟩ : ∃ k, k = a.length := ⟨_, rfl⟩;obtain ⟨nb, hnb⟩ : ∃ k, k = b.length := ⟨_, rfl⟩;rw [<- hna] at FA;rw [<- hnb] at FB;rw [<- hna, <- hnb];clear hA hB hla hlb hqa hqb hna hnb hf HF;go_enter Tryz.func3, Tryz.ntmps3
  go_wp2_with fail
  refine UP.out.mono ?_; rintro e w1 ⟨rfl, hb1⟩
  have HB1 := hZ hb1;clear hb1 UP;go_wp2_with fail
  refine (FA.out w1 HB1.out).mono ?_; rintro e w2 ⟨rfl, hb2⟩
  have HB2 := hZ (below_over HB1.out hb2);clear hb2 FA;go_wp2_with fail
  refine (FB.out w2 HB2.out).mono ?_; rintro e w3 ⟨rfl, hb3⟩
  have HB3 := hZ (below_over HB2.out hb3);clear hb3 FB;go_wp2_with fail
  go_ret;exact ⟨rfl, HB3.out⟩
 | true =>
 cases qb with
 | false =>
  obtain ⟨na, hna⟩ : ∃ k, k = a.length := ⟨_, rfl⟩;obtain ⟨nb, hnb⟩ : ∃ k, k = b.length := ⟨_, rfl⟩;rw [<- hna] at FA;rw [<- hnb] at FB;rw [<- hna, <- hnb];clear hA hB hla hlb hqa hqb hna hnb hf HF;go_enter Tryz.func3, Tryz.ntmps3
  go_wp2_with fail
  refine UP.out.mono ?_; rintro e w1 ⟨rfl, hb1⟩
  have HB1 := hZ hb1;clear hb1 UP;go_wp2_with fail
  refine (FA.out w1 HB1.out).mono ?_; rintro e w2 ⟨rfl, hb2⟩
  have HB2 := hZ (below_over HB1.out hb2);clear hb2 FA;go_wp2_with fail
  refine (FB.out w2 HB2.out).mono ?_; rintro e w3 ⟨rfl, hb3⟩
  have HB3 := hZ (below_over HB2.out hb3);clear hb3 FB;go_wp2_with fail
  go_ret;exact ⟨rfl, HB3.out⟩
 | true =>
 have hfa := fewE_few hqa
 have hfb := fewE_few hqb
 have h9a := fewE_small hqa
 have h9b := fewE_small hqb
 obtain ⟨pa, hpa⟩ : ∃ p, mayPk a = p := ⟨_, rfl⟩
 obtain ⟨pb, hpb⟩ : ∃ p, mayPk b = p := ⟨_, rfl⟩
 have CHG : Hid (∀ wx, Below w.heap.size w wx -> Calls Tryz.prog 7 #[.slice A a.length ca, .slice B b.length cb] wx (CgOut a b wx)) := hZ (fun wx hb => changes_any A ca B cb a b wx (hA.below hb) (hB.below hb) hla hlb hfa hfb)
 have OFF : Hid (∀ wx, Below w.heap.size w wx -> Calls Tryz.prog 8 #[.slice A a.length ca, .slice B b.length cb] wx (BoOut a b wx)) := hZ (fun wx hb => bumpOf_any A ca B cb a b wx (hA.below hb) (hB.below hb) hla hlb hfa hfb)
 have MA1 : Hid (∀ wx, Below w.heap.size w wx -> Calls Tryz.prog 9 #[.slice A a.length ca] wx fun e w' => e = .returned (.bool pa) /\ Below wx.heap.size wx w') := hZ (fun wx hb => by rw [<- hpa]; exact mayPk_any A ca a wx (hA.below hb) hla)
 have MB1 : Hid (∀ wx, Below w.heap.size w wx -> Calls Tryz.prog 9 #[.slice B b.length cb] wx fun e w' => e = .returned (.bool pb) /\ Below wx.heap.size wx w') := hZ (fun wx hb => by rw [<- hpb]; exact mayPk_any B cb b wx (hB.below hb) hlb)
 have RA1 : Hid (∀ wx, Below w.heap.size w wx -> Calls Tryz.prog 10 #[.slice A a.length ca] wx fun e w' => e = .returned (.bool pa) /\ Below wx.heap.size wx w') := hZ (fun wx hb => by rw [<- hpa]; exact rmayPk_any A ca a wx (hA.below hb) hla h9a)
 have RB1 : Hid (∀ wx, Below w.heap.size w wx -> Calls Tryz.prog 10 #[.slice B b.length cb] wx fun e w' => e = .returned (.bool pb) /\ Below wx.heap.size wx w') := hZ (fun wx hb => by rw [<- hpb]; exact rmayPk_any B cb b wx (hB.below hb) hlb h9b)
 have FR1 : Hid (∀ wx, Below w.heap.size w wx -> Calls Tryz.prog 11 #[.slice A a.length ca, .slice B b.length cb] wx fun e w' => e = .returned (.bool f) /\ Below wx.heap.size wx w') := hZ (fun wx hb => by rw [<- hf]; exact rfair_any A ca B cb a b wx (hA.below hb) (hB.below hb) hla hlb h9a h9b)
 have RCC : Hid (f = true -> ∀ wx, Below w.heap.size w wx -> Calls Tryz.prog 12 #[.slice A a.length ca, .slice B b.length cb] wx fun e w' => ∃ (A' : Option Addr) (c' : Nat), e = .returned (.slice A' (chP a b).length c') /\ RowIn chR w' A' (chP a b) /\ Below wx.heap.size wx w') := hZ (fun h wx hb => rchanges_any A ca B cb a b wx (hA.below hb) (hB.below hb) (fairP_parts (hf.trans h)).1 (fairP_parts (hf.trans h)).2.1 hfa hfb)
 obtain ⟨na, hna⟩ : ∃ k, k = a.length := ⟨_, rfl⟩
 obtain ⟨nb, hnb⟩ : ∃ k, k = b.length := ⟨_, rfl⟩
 rw [<- hna] at FA CHG OFF MA1 RA1 FR1 RCC
 rw [<- hnb] at FB CHG OFF MB1 RB1 FR1 RCC
 rw [<- hna, <- hnb]
 clear hA hB hla hlb hqa hqb hfa hfb h9a h9b hpa hpb hf hna hnb
 go_enter Tryz.func3, Tryz.ntmps3
 go_wp2_with fail
 refine UP.out.mono ?_; rintro e w1 ⟨rfl, hb1⟩
 have HB1 := hZ hb1
 clear hb1 UP
 go_wp2_with fail
 refine (FA.out w1 HB1.out).mono ?_; rintro e w2 ⟨rfl, hb2⟩
 have HB2 := hZ (below_over HB1.out hb2)
 clear hb2 FA
 go_wp2_with fail
 refine (FB.out w2 HB2.out).mono ?_; rintro e w3 ⟨rfl, hb3⟩
 have HB3 := hZ (below_over HB2.out hb3)
 clear hb3 FB
 go_wp2_with fail
 cases f with
 | false =>
  refine (CHG.out w3 HB3.out).mono ?_;intro e w4 h4;obtain ⟨hb4, ⟨-, rfl⟩ | ⟨h, -⟩⟩ := h4;rotate_left
  ·rw [HF.out] at h; cases h
  have HB4 := hZ (below_over HB3.out hb4);clear hb4 CHG;go_wp2_with fail
  refine (OFF.out w4 HB4.out).mono ?_;intro e w5 h5;obtain ⟨hb5, ⟨-, rfl⟩ | ⟨h, -⟩⟩ := h5;rotate_left
  ·rw [HF.out] at h; cases h
  have HB5 := hZ (below_over HB4.out hb5);clear hb5 OFF;go_wp2_with fail
  refine (MA1.out w5 HB5.out).mono ?_; rintro e w6 ⟨rfl, hb6⟩
  have HB6 := hZ (below_over HB5.out hb6);clear hb6 MA1;go_wp2_with fail
  refine (RA1.out w6 HB6.out).mono ?_; rintro e w7 ⟨rfl, hb7⟩
  have HB7 := hZ (below_over HB6.out hb7);clear hb7 RA1;go_wp2_with fail
  refine (MB1.out w7 HB7.out).mono ?_; rintro e w8 ⟨rfl, hb8⟩
  have HB8 := hZ (below_over HB7.out hb8);clear hb8 MB1;go_wp2_with fail
  refine (RB1.out w8 HB8.out).mono ?_; rintro e w9 ⟨rfl, hb9⟩
  have HB9 := hZ (below_over HB8.out hb9);clear hb9 RB1;go_wp2_with fail
  refine (FR1.out w9 HB9.out).mono ?_; rintro e w10 ⟨rfl, hb10⟩
  have HB10 := hZ (below_over HB9.out hb10);clear hb10 FR1;have heq := eqErr 1 1 w10;clear RCC;cases pa <;> cases pb <;>
  ·go_wp2_with fail
   go_ret;exact ⟨rfl, HB10.out⟩
 | true =>
  refine (CHG.out w3 HB3.out).mono ?_;intro e w4 h4;obtain ⟨hb4, ⟨h, -⟩ | ⟨-, h32, A8, c8, rfl, hR8⟩⟩ := h4
  ·rw [HF.out] at h; cases h
  have HR8 := hZ hR8;clear hR8;obtain ⟨cs, hcs⟩ : ∃ cs, cs = chP a b := ⟨_, rfl⟩;have HCS := hZ hcs;rw [<- hcs] at h32 HR8 RCC ⊢;have KND : Hid (∀ x ∈ cs, 1 <= x.kind) := hZ (by rw [hcs]; exact chP_kind);obtain ⟨n, hn⟩ : ∃ n, n = cs.length := ⟨_, rfl⟩;have HN := hZ hn;rw [<- hn] at h32 RCC ⊢;clear hcs hn;have HB4 := hZ (below_over HB3.out hb4);clear hb4 CHG;go_wp2_with fail
  refine (OFF.out w4 HB4.out).mono ?_;intro e w5 h5;obtain ⟨hb5, ⟨h, -⟩ | ⟨-, rfl⟩⟩ := h5
  ·rw [HF.out] at h; cases h
  obtain ⟨z, hz⟩ : ∃ z, z = ofP (chP a b) := ⟨_, rfl⟩;rw [<- hz];have HZ : Hid (z = ofP cs) := hZ (by rw [HCS.out]; exact hz);clear hz;have HB5 := hZ (below_over HB4.out hb5);have HBD5 := hZ hb5;clear hb5 OFF;go_wp2_with fail
  refine (MA1.out w5 HB5.out).mono ?_; rintro e w6 ⟨rfl, hb6⟩
  have HB6 := hZ (below_over HB5.out hb6);have HBD6 := hZ hb6;clear hb6 MA1;go_wp2_with fail
  refine (RA1.out w6 HB6.out).mono ?_; rintro e w7 ⟨rfl, hb7⟩
  have HB7 := hZ (below_over HB6.out hb7);have HBD7 := hZ hb7;clear hb7 RA1;go_wp2_with fail
  refine (MB1.out w7 HB7.out).mono ?_; rintro e w8 ⟨rfl, hb8⟩
  have HB8 := hZ (below_over HB7.out hb8);have HBD8 := hZ hb8;clear hb8 MB1;go_wp2_with fail
  refine (RB1.out w8 HB8.out).mono ?_; rintro e w9 ⟨rfl, hb9⟩
  have HB9 := hZ (below_over HB8.out hb9);have HBD9 := hZ hb9;clear hb9 RB1;go_wp2_with fail
  refine (FR1.out w9 HB9.out).mono ?_; rintro e w10 ⟨rfl, hb10⟩
  have HB10 := hZ (below_over HB9.out hb10);have HBD10 := hZ hb10;clear hb10 FR1;go_wp2_with fail
  refine (RCC.out (by trivial) w10 HB10.out).mono ?_; rintro e w11 ⟨A9, c9, rfl, hR9, hb11⟩
  have HR9 := hZ hR9;have HB11 := hZ (below_over HB10.out hb11)
  have SM : Hid (Calls Tryz.prog 13 #[.slice A8 n c8, .slice A9 n c9] w11 fun e w' => e = .returned (.bool true) /\ Below w11.heap.size w11 w') := hZ (by
   rw [HN.out];exact rsame12_any A8 c8 A9 c9 cs w11 ((((((((HR8.out.below HBD5.out).below HBD6.out).below HBD7.out).below HBD8.out).below HBD9.out).below HBD10.out).below hb11)) HR9.out (by rw [<- HN.out]; omega))
  have BM : Hid (∀ wx, Below w11.heap.size w11 wx -> Calls Tryz.prog 14 #[.slice A9 n c9] wx fun e w' => e = .returned (.int .i64 z) /\ Below wx.heap.size wx w') := hZ (fun wx hb => by
   rw [HN.out, HZ.out];exact rbump_any A9 c9 cs wx (HR9.out.below hb) (by rw [<- HN.out]; omega) KND.out)
  clear hR9 hb11 RCC;cases pa <;> cases pb <;>
  ·go_wp2_with fail
   refine SM.out.mono ?_; rintro e w12 ⟨rfl, hb12⟩
   have HB12 := hZ (below_over HB11.out hb12);have BM2 := hZ (BM.out w12 hb12);clear hb12 SM BM;go_wp2_with fail
   refine BM2.out.mono ?_; rintro e w13 ⟨rfl, hb13⟩
   have HB13 := hZ (below_over HB12.out hb13);clear hb13 BM2;go_wp2_with fail
   go_ret;exact ⟨by first | rfl | exact ret_bool (by simp), HB13.out⟩
end Go.Proofs.YtddlmigofilejaaGreat
namespace Go.Proofs.YtddlmigofilejaaGreat
open Go Go.RowKit Go.WideShapes Go.ChangeShapes
section
variable {H : Type} {enc : TypeId × Value -> H} {P : Program}
theorem post_of_below {f : Func} {s : ChangeSpec} {apart fresh handsOn again : Bool} {W W' : World} {args : Array Value} {v : Value} {ds gs : List (DataW H)} {before pa pv : List MemPlace}
    (hW : DataW.Whole enc P f.params.toList s.vars apart W args.toList ds gs before)
    (hres : ∀ (b : Nat) (sp : Nat -> Bool) (hd : Bool), DataW.TrodAll enc P W' b sp hd f.resultTypes.toList (v.resultList f.resultTypes.size) (s.fn H (ds ++ gs)).results [])
    (hargs : ∀ sp : Nat -> Bool, (∀ p ∈ before, sp p.block = true) -> DataW.TrodAll enc P W' 0 sp true f.params.toList args.toList (s.fn H (ds ++ gs)).args pa)
    (hvars : ∀ sp : Nat -> Bool, (∀ p ∈ before, sp p.block = true) -> DataW.TrodVars enc P W' sp s.vars (s.fn H (ds ++ gs)).vars pv)
    (hps : before = pa ++ pv) (hb : Below W.heap.size W W')
    (hok : ∀ (j : Nat) (t : TypeId) (r : Value), f.resultTypes[j]? = some t -> (v.resultList f.resultTypes.size)[j]? = some r -> Value.okWide P W' .any 0 t r) :
    s.post enc P f apart fresh handsOn again W args v W' := by
  have hlt : ∀ p ∈ before, p.block < W.heap.size := fun p hp => hW.lt p hp
  have hold : ∀ p ∈ before, (fun b => decide (b < W.heap.size)) p.block = true := fun p hp => by simpa using hlt p hp
  refine ⟨ds, gs, before, [], pa, pv, hW, hres _ _ _, hargs _ hold, hvars _ hold, World.keptBut_mono (fun p hp => ⟨hp, ?_⟩) (hb.frame (· ∈ before)), fun _ => ?_⟩
  · rw [hps, List.mem_append] at hp
    exact Or.inr hp
  · obtain ⟨_, _, _, _, _, hz, hn⟩ := hW
    refine ⟨hok, _, _, ([] ++ pa) ++ pv, ⟨[] ++ pa, pv, trodAll_append (hargs _ (fun _ _ => rfl)) (hres _ _ _), hvars _ (fun _ _ => rfl), rfl, ?_, ?_⟩, ?_⟩
    · intro b off hp
      have hin : MemPlace.cell b off ∈ before := by rw [hps]; simpa using hp
      rw [hb.frozen (hlt _ hin)];exact hz b off hin
    · intro ha
      have := hn ha
      rw [hps] at this;simpa using this
    · intro p hp _
      rw [hps];simpa using hp
theorem trodAll_stays (hl : laidOutB P = true) {W W' : World} {sp : Nat -> Bool} (hb : Below W.heap.size W W') :
    ∀ (ts : List TypeId) (vs : List Value) (ds : List (DataW H)) (ps : List MemPlace), (∀ t ∈ ts, P.readableRec t = true /\ t < P.types.size) ->
      DataW.TrodAll enc P W 0 (fun _ => true) true ts vs ds ps -> (∀ x ∈ ps, x.block < W.heap.size) -> (∀ x ∈ ps, sp x.block = true) -> DataW.TrodAll enc P W' 0 sp true ts vs ds ps
  | [], vs, ds, ps, _, h, _, _ => by
    obtain ⟨rfl, rfl, rfl⟩ := trodAll_nil h;exact trodAll_mk0
  | t :: ts, vs, ds, ps, ht, h, hlt, hs => by
    obtain ⟨v, vs', d, ds', p, q, rfl, rfl, rfl, h0, h1⟩ := trodAll_cons h;obtain ⟨hr, hrow⟩ := ht t (by simp)
    exact ⟨p, q, WideElems.Trod_stays hl hr hrow h0 (fun x hx => hb.same (hlt x (by simp [hx]))) (fun x hx => hs x (by simp [hx])),
      trodAll_stays hl hb ts vs' ds' q (fun u hu => ht u (by simp [hu])) h1 (fun x hx => hlt x (by simp [hx])) (fun x hx => hs x (by simp [hx])), rfl⟩
theorem law_post {f : Func} {s : ChangeSpec} {apart fresh handsOn again : Bool} {W W' : World} {args : Array Value} {ds gs : List (DataW H)} {before : List MemPlace} {tb : TypeId}
    (hl : laidOutB P = true) (hro : f.params.toList.all (fun t => P.readableRec t && decide (t < P.types.size)) = true) (hres : f.resultTypes = #[tb]) (hbool : P.underlying tb = some .bool) (hvars : s.vars = [])
    (hW : DataW.Whole enc P f.params.toList s.vars apart W args.toList ds gs before) (hb : Below W.heap.size W W')
    (hs : s.fn H (ds ++ gs) = { results := [.lit (.bool true)], args := ds }) :
    s.post enc P f apart fresh handsOn again W args (.bool true) W' := by
  have hW' := hW
  obtain ⟨p, q, hA, hV, hpq, _, _⟩ := hW;rw [hvars] at hV;obtain ⟨rfl, rfl⟩ := trodVars_none hV;rw [List.append_nil] at hpq;subst hpq;have hlt : ∀ x ∈ before, x.block < W.heap.size := fun x hx => hW'.lt x hx
  have hro' : ∀ t ∈ f.params.toList, P.readableRec t = true /\ t < P.types.size := fun t ht => by
    have := List.all_eq_true.1 hro t ht
    simpa using this
  refine post_of_below (pa := before) (pv := []) hW' ?_ ?_ ?_ (by simp) hb ?_
  · intro b sp hd
    rw [hs, hres];exact trodAll_mk1 (shut_bool hbool true)
  · intro sp hsp
    rw [hs];exact trodAll_stays hl hb _ _ _ _ hro' hA hlt hsp
  · intro sp _
    rw [hs, hvars];exact rfl
  · exact ok_one hres rfl (okWide_bool_mk hbool true)
end
end Go.Proofs.YtddlmigofilejaaGreat
namespace Go.Proofs.YtddlmigofilejaaGreat
open Go Go.ChangeShapes Go.WideShapes Go.ChangeAt Go.RowKit Go.Joins
theorem own : ownKnob Tryz.prog.godebug = none := by kernel_rfl
theorem laidOut : laidOutB Tryz.prog = true := by kernel_rfl
end Go.Proofs.YtddlmigofilejaaGreat
