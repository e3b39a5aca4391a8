/-
  What is proved here: merkle's Range, and the walk of cohortlaw06.MerkleRange; over this program.
-/
import Derived.Test.YtmhbfplaglipnaaGreatDoorMZ
namespace Go.Proofs.YtmhbfplaglipnaaGreatDoor
open Go.RowKit Go.Extern.Stop Go.Stop Go.Extern

/-- is an entry's key in the range? -/
def inR (fk tk : List UInt8) (e : Ent) : Bool := !(Op.bytesLess e.1 fk) && (tk == [] || Op.bytesLess e.1 tk)
/-- does a proof leave out nothing of the range? -/
def reachR (N F : Int) (L : List Ent) (fk tk : List UInt8) : Bool := reachB F L fk && (reachE N F L || (!(tk == []) && reachT N F L tk))
/-- what Range finds -/
def RngRes (T : List (List UInt8)) (N F : Int) (L : List Ent) (Bs : List Int) (root : Int) (fk tk : List UInt8) (c : Int) (R : List Ent) : Prop :=
  ∃ c0, ChkRes T N F L Bs root c0 ∧ ((c0 ≠ 0 ∧ c = c0 ∧ R = []) ∨ (c0 = 0 ∧ reachR N F L fk tk = false ∧ c = 62 ∧ R = []) ∨ (c0 = 0 ∧ reachR N F L fk tk = true ∧ c = 0 ∧ R = L.filter (inR fk tk)))
/-- what Range answers -/
def RngPost (w : World) (p : Nat) (O : Nat → Prop) (T : List (List UInt8)) (N F : Int) (L : List Ent) (Bs : List Int) (root : Int) (fk tk : List UInt8) (e : Ending) (w' : World) : Prop :=
  ∃ (er : Value) (c : Int) (v : Value) (R : List Ent) (O' : Nat → Prop) (T' : List (List UInt8)), e = .returned (.tuple #[v, er]) ∧ Bk w' p O' T' ∧ Goes w O T w' O' T' 2048 ∧ ErrM w' (fun k => w.heap.size ≤ k ∧ ¬ O' k) er c ∧ EntsAp w' O' v R ∧ RngRes T' N F L Bs root fk tk c R
theorem ents_none (w : World) (A : Nat → Prop) : EntsIn w A (.slice none 0 0) [] := ⟨none, 0, rfl, fun _ => ⟨rfl, rfl, rfl⟩, fun k x hx => by simp [entsCells] at hx⟩
theorem filter_snoc {L : List Ent} {p : Ent → Bool} {k : Nat} {x : Ent} (hx : L[k]? = some x) : (L.take (k + 1)).filter p = (L.take k).filter p ++ (if p x = true then [x] else []) := by
  rw [List.take_add_one, hx]; simp [List.filter_append]; split <;> simp_all

set_option maxRecDepth 100000 in
set_option maxHeartbeats 8000000 in
theorem mRange_any (w : World) (p : Nat) (O : Nat → Prop) (T : List (List UInt8)) (root N F : Int) (vl vb : Value) (L : List Ent) (Bs : List Int) (fk tk : List UInt8) (h : Bk w p O T) (hp : ProofOk w O N F vl vb L Bs) (hT : T.length + 2048 ≤ 65536) :
    Calls Tryz.prog 19 #[.pointer (some ⟨p, 0, none⟩), .int .i64 root, .string ⟨fk.toArray⟩, .string ⟨tk.toArray⟩, .agg #[.int .i64 N, .int .i64 F, vl, vb]] w (RngPost w p O T N F L Bs root fk tk) := by
  have H := hideIt (And.intro h hp)
  have HT := hideIt hT
  obtain ⟨al, cl, rfl⟩ := hp.ap.1.form
  obtain ⟨ab, cb, rfl⟩ := NumsIn.form hp.ap.2
  obtain ⟨W, hW, hwb, hws, hr4, _⟩ := room4 w 25 (.int .i64 N) (.int .i64 F) (.slice al L.length cl) (.slice ab Bs.length cb)
  have HRW : Hid (R4 W w.heap.size (.int .i64 N) (.int .i64 F) (.slice al L.length cl) (.slice ab Bs.length cb)) := hideIt hr4
  have HC := hideIt (mCheck_any W p O T root N F (.slice al L.length cl) (.slice ab Bs.length cb) L Bs (h.next hwb) (hp.next hwb) hT)
  have HWB := hideIt hwb
  have HWS := hideIt hws
  have HNO : Hid (¬ O w.heap.size) := hideIt (fun o => by have := h.2 _ o; omega)
  obtain ⟨c0, c1, c2, c3⟩ := hr4
  clear h hp hT hwb hws
  go_enter Tryz.func19, Tryz.ntmps19
  go_wp2_with fail
  rw [← hW]
  clear hW
  refine HC.out.mono ?_
  rintro e w1 ⟨er, cc, O1, T1, rfl, g1, g2, g3, g4⟩
  have HP1 := hideIt ((H.out.2.next HWB.out).goes g2)
  have HR1 := hideIt (HRW.out.goes g2 HNO.out)
  have HG := hideIt (And.intro g1 (And.intro (Goes.pre HWB.out g2) (And.intro (g2.turn.size) g4)))
  have HE := hideIt g3
  clear g1 g2 g4 c0 c1 c2 c3 HC HRW
  rcases g3 with ⟨rfl, rfl⟩ | ⟨hcc, ho⟩
  case inr =>
    obtain ⟨ty, y, rfl⟩ := ho.iface
    clear ho
    go_wp2
    refine bodyPost_ret (v := .tuple #[.slice none 0 0, .iface ty y]) (by simp [results, Tryz.results19, go_sem]) rfl ?_
    refine ⟨_, cc, _, [], O1, T1, rfl, HG.out.1, HG.out.2.1, ?_, ents_none _ _, cc, HG.out.2.2.2, Or.inl ⟨hcc, rfl, rfl⟩⟩
    rcases HE.out with ⟨h, _⟩ | ⟨h1, h2⟩
    · exact absurd h hcc
    · exact Or.inr ⟨h1, h2.mono (fun k hk _ => ⟨by have := hk.1; have := HWS.out; omega, hk.2⟩)⟩
  case inl =>
  have HLL : Hid (L.length ≤ 1024 ∧ 0 ≤ F ∧ F ≤ 1024) := hideIt (by
    rcases HG.out.2.2.2 with ⟨_, hs, _⟩ | ⟨e, _⟩ | ⟨e, _⟩
    · exact ⟨hs.2.1.1, hs.2.2.1.1, by have := hs.1; have := hs.2.2.1; omega⟩
    · cases e
    · cases e)
  have hll := HLL.out.1
  obtain ⟨eb, heb⟩ : ∃ eb, (tk == []) = eb := ⟨_, rfl⟩
  obtain ⟨c0, c1, c2, c3⟩ := HR1.out
  go_wp2_with fail
  refine (mrBelow_any w1 _ N F _ ab Bs.length cb L fk HP1.out.ap.1 hll).mono ?_
  rintro e w2 ⟨rfl, hb2⟩
  have HB2 := hideIt hb2
  have HR2 := hideIt (HR1.out.next hb2)
  clear hb2 c0 c1 c2 c3
  obtain ⟨bb, hbb⟩ : ∃ bb, bb = reachB F L fk := ⟨_, rfl⟩
  rw [← hbb]
  have HBB := hideIt hbb
  have HEB := hideIt heb
  clear hbb heb
  obtain ⟨c0, c1, c2, c3⟩ := HR2.out
  cases bb with
  | false =>
    have HRR : Hid (reachR N F L fk tk = false) := hideIt (by unfold reachR; rw [← HBB.out]; rfl)
    go_wp2_with fail
    refine (mwrong_any w2 62 (by decide)).mono ?_
    rintro e w9 ⟨er9, rfl, ho9, hb9⟩
    obtain ⟨ty, y, rfl⟩ := ho9.iface
    have HO9 := hideIt ho9
    have HB9 := hideIt (HB2.out.trans (hb9.mono HB2.out.size))
    have HBS := hideIt HB2.out.size
    clear ho9 hb9
    go_wp2
    refine bodyPost_ret (v := .tuple #[.slice none 0 0, .iface ty y]) (by simp [results, Tryz.results19, go_sem]) rfl ?_
    exact ⟨_, 62, _, [], O1, T1, rfl, HG.out.1.next HB9.out, (HG.out.2.1.trans (Goes.of_below HB9.out)).more (by omega), Or.inr ⟨by decide, HO9.out.mono (fun k hk _ => ⟨by have := HG.out.2.2.1; have := HWS.out; have := HBS.out; omega, fun o => by have := HG.out.1.2 _ o; have := HBS.out; omega⟩)⟩, ents_none _ _, 0, HG.out.2.2.2, Or.inr (Or.inl ⟨rfl, HRR.out, rfl, rfl⟩)⟩
  | true =>
    go_wp2_with fail
    refine (mrLast_any w2 N F al cl ab Bs.length cb L HLL.out.1 HLL.out.2).mono ?_
    rintro e w3 ⟨rfl, hb3⟩
    have HB3 := hideIt (HB2.out.trans (hb3.mono HB2.out.size))
    have HR3 := hideIt (HR2.out.next hb3)
    clear hb3 c0 c1 c2 c3
    obtain ⟨be, hbe⟩ : ∃ be, be = reachE N F L := ⟨_, rfl⟩
    rw [← hbe]
    have HBE := hideIt hbe
    clear hbe
    obtain ⟨c0, c1, c2, c3⟩ := HR3.out
    cases be with
    | true =>
      cases eb with
      | true =>
        have HRR : Hid (reachR N F L fk tk = true) := hideIt (by unfold reachR; rw [← HBB.out, ← HBE.out]; rfl)
        obtain ⟨i0, hi, hi2⟩ := Option.map_eq_some_iff.1 infoEnt
        obtain ⟨hz0, hz1, hz2⟩ : i0.zero = some (.agg #[.string ⟨#[]⟩, .string ⟨#[]⟩, .int .i64 0]) ∧ i0.size = 3 ∧ i0.bytes = 40 := by
          simp only [Prod.mk.injEq] at hi2; exact hi2
        have HI := hideIt (And.intro hi (And.intro hz0 (And.intro hz1 hz2)))
        clear hi2 hi hz0 hz1 hz2
        go_wp2_with fail
        go_loopw [14, 48] (fun ov i wr => ∃ (k m : Nat) (aa : Option Addr) (ac : Nat), k ≤ L.length ∧ i = .int .i64 k ∧ ov = .slice aa m ac ∧ m ≤ k ∧ Hid (wr.ownsRow w3.heap.size 42 3 (.slice aa m ac) m (entsCells ((L.take k).filter (inR fk tk)))) ∧ Hid (Below w3.heap.size w3 wr)) (fun _ i _ => L.length - (intOf i).toNat)
        case atStart => exact ⟨0, 0, none, 0, Nat.zero_le _, rfl, rfl, Nat.le_refl _, World.ownsRow_nil _ _ _ _, Below.refl _ _⟩
        case round =>
          obtain ⟨k, m, aa, ac, hk, rfl, rfl, hmk, HO, HB⟩ := hrel
          by_cases hlt : k < L.length
          case pos =>
            obtain ⟨x, hx⟩ : ∃ x, L[k]? = some x := ⟨L[k], by simp [hlt]⟩
            have HEN := hideIt (((HP1.out.next HB3.out).next HB.out).ap.1)
            obtain ⟨b, off, rfl, _, e0, e1, e2⟩ := EntsIn.at HEN.out hx
            obtain ⟨Wr, hWr, hrb, hrs, t0, t1, t2⟩ := room3 wr 42 (.string ⟨x.1.toArray⟩) (.string ⟨x.2.1.toArray⟩) (.int .i64 x.2.2)
            have HX := hideIt hx
            have HBr := hideIt (HB.out.trans (hrb.mono HB.out.size))
            have HOr : Hid (Wr.ownsRow w3.heap.size 42 3 (.slice aa m ac) m (entsCells ((L.take k).filter (inR fk tk)))) := hideIt (ownsRow_of_block HO.out (fun g hg => hrb.block g (ownsRow_lt HO.out hg)))
            clear hx hrb HO HB c0 c1 c2 c3 t0 t1 t2
            cases q1 : Op.bytesLess x.1 fk with
            | true =>
              have HF : Hid ((L.take (k + 1)).filter (inR fk tk) = (L.take k).filter (inR fk tk)) := hideIt (by rw [filter_snoc HX.out, if_neg (by unfold inR; rw [q1]; simp), List.append_nil])
              go_wp2
              rw [← hWr]
              exact ⟨⟨k + 1, m, aa, ac, by omega, by go_num, rfl, by omega, by rw [HF.out]; exact HOr, HBr⟩, by simp [intOf]; omega⟩
            | false =>
              have HF : Hid ((L.take (k + 1)).filter (inR fk tk) = (L.take k).filter (inR fk tk) ++ [x]) := hideIt (by rw [filter_snoc HX.out, if_pos (by unfold inR; rw [q1, HEB.out]; rfl)])
              obtain ⟨U, hU, hUb, hUs, hUo⟩ := lit_one Wr x
              have HU := hideIt (And.intro (HBr.out.trans (hUb.mono HBr.out.size)) (And.intro (RowIn.of_own (A := fun k => Wr.heap.size ≤ k) hUo (fun _ h => h) : EntsIn U (fun k => Wr.heap.size ≤ k) _ [x]) (ownsRow_of_block HOr.out (fun g hg => hUb.block g (ownsRow_lt HOr.out hg)) : U.ownsRow w3.heap.size 42 3 (.slice aa m ac) m (entsCells ((L.take k).filter (inR fk tk))))))
              clear hUb hUs hUo
              rw [hrs] at HU
              rw [hWr] at hU
              go_wp2_with (at_builtin; rw [← hU]; refine wpList_append_ents rfl _ _ 22 rfl w3.heap.size 42 i0 (.agg #[.string ⟨#[]⟩, .string ⟨#[]⟩, .int .i64 0]) Tryz.underlying22 HI.out.1 HI.out.2.1 HI.out.2.2.1 HI.out.2.2.2 rfl _ m _ rfl HU.out.2.2 _ _ _ rfl HU.out.2.1 (by simp only [List.length_cons, List.length_nil]; omega) HU.out.1.size ?_)
              intro v' w7 h1 h2 _
              try rw [← hU] at h2
              have HB7 := hideIt (HU.out.1.grown h2 HU.out.1.size (fun k hk => (World.ownsRow.lt HU.out.2.2 k hk).1))
              obtain ⟨az, capz, rfl⟩ := own_form h1
              have HO7 : Hid (w7.ownsRow w3.heap.size 42 3 (.slice az (m + 1) capz) (m + 1) (entsCells ((L.take (k + 1)).filter (inR fk tk)))) := hideIt (by rw [HF.out, entsCells_append]; exact h1)
              clear h1 h2 HU hU HOr HBr
              go_wp2
              exact ⟨⟨k + 1, m + 1, az, capz, by omega, by go_num, rfl, by omega, HO7, HB7⟩, by simp [intOf]; omega⟩
          case neg =>
            obtain rfl : k = L.length := by omega
            have HOF : Hid (EntsAp wr O1 (.slice aa m ac) (L.filter (inR fk tk))) := hideIt (by
              have h := HO.out
              rw [List.take_length] at h
              have h2 := RowIn.of_own (A := fun k => w3.heap.size ≤ k) h (fun _ h => h)
              have h3 : m = (L.filter (inR fk tk)).length := by have := h.1; rw [entsCells_len] at this; omega
              rw [h3] at h2 ⊢
              exact RowIn.mono h2 (fun k hk hl => ⟨hl, fun o => by have := HG.out.1.2 _ o; have := HB3.out.size; omega⟩))
            have HBF := hideIt (HB3.out.trans (HB.out.mono HB3.out.size))
            clear HO HB
            go_wp2
            refine bodyPost_ret (v := .tuple #[.slice aa m ac, .nilIface]) (by simp [results, Tryz.results19, go_sem]) rfl ?_
            exact ⟨_, 0, _, _, O1, T1, rfl, HG.out.1.next HBF.out, (HG.out.2.1.trans (Goes.of_below HBF.out)).more (by omega), Or.inl ⟨rfl, rfl⟩, HOF.out, 0, HG.out.2.2.2, Or.inr (Or.inr ⟨rfl, HRR.out, rfl, rfl⟩)⟩
      | false =>
        have HRR : Hid (reachR N F L fk tk = true) := hideIt (by unfold reachR; rw [← HBB.out, ← HBE.out]; rfl)
        obtain ⟨i0, hi, hi2⟩ := Option.map_eq_some_iff.1 infoEnt
        obtain ⟨hz0, hz1, hz2⟩ : i0.zero = some (.agg #[.string ⟨#[]⟩, .string ⟨#[]⟩, .int .i64 0]) ∧ i0.size = 3 ∧ i0.bytes = 40 := by
          simp only [Prod.mk.injEq] at hi2; exact hi2
        have HI := hideIt (And.intro hi (And.intro hz0 (And.intro hz1 hz2)))
        clear hi2 hi hz0 hz1 hz2
        go_wp2_with fail
        go_loopw [14, 48] (fun ov i wr => ∃ (k m : Nat) (aa : Option Addr) (ac : Nat), k ≤ L.length ∧ i = .int .i64 k ∧ ov = .slice aa m ac ∧ m ≤ k ∧ Hid (wr.ownsRow w3.heap.size 42 3 (.slice aa m ac) m (entsCells ((L.take k).filter (inR fk tk)))) ∧ Hid (Below w3.heap.size w3 wr)) (fun _ i _ => L.length - (intOf i).toNat)
        case atStart => exact ⟨0, 0, none, 0, Nat.zero_le _, rfl, rfl, Nat.le_refl _, World.ownsRow_nil _ _ _ _, Below.refl _ _⟩
        case round =>
          obtain ⟨k, m, aa, ac, hk, rfl, rfl, hmk, HO, HB⟩ := hrel
          by_cases hlt : k < L.length
          case pos =>
            obtain ⟨x, hx⟩ : ∃ x, L[k]? = some x := ⟨L[k], by simp [hlt]⟩
            have HEN := hideIt (((HP1.out.next HB3.out).next HB.out).ap.1)
            obtain ⟨b, off, rfl, _, e0, e1, e2⟩ := EntsIn.at HEN.out hx
            obtain ⟨Wr, hWr, hrb, hrs, t0, t1, t2⟩ := room3 wr 42 (.string ⟨x.1.toArray⟩) (.string ⟨x.2.1.toArray⟩) (.int .i64 x.2.2)
            have HX := hideIt hx
            have HBr := hideIt (HB.out.trans (hrb.mono HB.out.size))
            have HOr : Hid (Wr.ownsRow w3.heap.size 42 3 (.slice aa m ac) m (entsCells ((L.take k).filter (inR fk tk)))) := hideIt (ownsRow_of_block HO.out (fun g hg => hrb.block g (ownsRow_lt HO.out hg)))
            clear hx hrb HO HB c0 c1 c2 c3 t0 t1 t2
            cases q1 : Op.bytesLess x.1 fk with
            | true =>
              have HF : Hid ((L.take (k + 1)).filter (inR fk tk) = (L.take k).filter (inR fk tk)) := hideIt (by rw [filter_snoc HX.out, if_neg (by unfold inR; rw [q1]; simp), List.append_nil])
              go_wp2
              rw [← hWr]
              exact ⟨⟨k + 1, m, aa, ac, by omega, by go_num, rfl, by omega, by rw [HF.out]; exact HOr, HBr⟩, by simp [intOf]; omega⟩
            | false =>
              cases q2 : Op.bytesLess x.1 tk with
              | true =>
                have HF : Hid ((L.take (k + 1)).filter (inR fk tk) = (L.take k).filter (inR fk tk) ++ [x]) := hideIt (by rw [filter_snoc HX.out, if_pos (by unfold inR; rw [q1, q2, HEB.out]; rfl)])
                obtain ⟨U, hU, hUb, hUs, hUo⟩ := lit_one Wr x
                have HU := hideIt (And.intro (HBr.out.trans (hUb.mono HBr.out.size)) (And.intro (RowIn.of_own (A := fun k => Wr.heap.size ≤ k) hUo (fun _ h => h) : EntsIn U (fun k => Wr.heap.size ≤ k) _ [x]) (ownsRow_of_block HOr.out (fun g hg => hUb.block g (ownsRow_lt HOr.out hg)) : U.ownsRow w3.heap.size 42 3 (.slice aa m ac) m (entsCells ((L.take k).filter (inR fk tk))))))
                clear hUb hUs hUo
                rw [hrs] at HU
                rw [hWr] at hU
                go_wp2_with (at_builtin; rw [← hU]; refine wpList_append_ents rfl _ _ 22 rfl w3.heap.size 42 i0 (.agg #[.string ⟨#[]⟩, .string ⟨#[]⟩, .int .i64 0]) Tryz.underlying22 HI.out.1 HI.out.2.1 HI.out.2.2.1 HI.out.2.2.2 rfl _ m _ rfl HU.out.2.2 _ _ _ rfl HU.out.2.1 (by simp only [List.length_cons, List.length_nil]; omega) HU.out.1.size ?_)
                intro v' w7 h1 h2 _
                try rw [← hU] at h2
                have HB7 := hideIt (HU.out.1.grown h2 HU.out.1.size (fun k hk => (World.ownsRow.lt HU.out.2.2 k hk).1))
                obtain ⟨az, capz, rfl⟩ := own_form h1
                have HO7 : Hid (w7.ownsRow w3.heap.size 42 3 (.slice az (m + 1) capz) (m + 1) (entsCells ((L.take (k + 1)).filter (inR fk tk)))) := hideIt (by rw [HF.out, entsCells_append]; exact h1)
                clear h1 h2 HU hU HOr HBr
                go_wp2
                exact ⟨⟨k + 1, m + 1, az, capz, by omega, by go_num, rfl, by omega, HO7, HB7⟩, by simp [intOf]; omega⟩
              | false =>
                have HF : Hid ((L.take (k + 1)).filter (inR fk tk) = (L.take k).filter (inR fk tk)) := hideIt (by rw [filter_snoc HX.out, if_neg (by unfold inR; rw [q1, q2, HEB.out]; simp), List.append_nil])
                go_wp2
                rw [← hWr]
                exact ⟨⟨k + 1, m, aa, ac, by omega, by go_num, rfl, by omega, by rw [HF.out]; exact HOr, HBr⟩, by simp [intOf]; omega⟩
          case neg =>
            obtain rfl : k = L.length := by omega
            have HOF : Hid (EntsAp wr O1 (.slice aa m ac) (L.filter (inR fk tk))) := hideIt (by
              have h := HO.out
              rw [List.take_length] at h
              have h2 := RowIn.of_own (A := fun k => w3.heap.size ≤ k) h (fun _ h => h)
              have h3 : m = (L.filter (inR fk tk)).length := by have := h.1; rw [entsCells_len] at this; omega
              rw [h3] at h2 ⊢
              exact RowIn.mono h2 (fun k hk hl => ⟨hl, fun o => by have := HG.out.1.2 _ o; have := HB3.out.size; omega⟩))
            have HBF := hideIt (HB3.out.trans (HB.out.mono HB3.out.size))
            clear HO HB
            go_wp2
            refine bodyPost_ret (v := .tuple #[.slice aa m ac, .nilIface]) (by simp [results, Tryz.results19, go_sem]) rfl ?_
            exact ⟨_, 0, _, _, O1, T1, rfl, HG.out.1.next HBF.out, (HG.out.2.1.trans (Goes.of_below HBF.out)).more (by omega), Or.inl ⟨rfl, rfl⟩, HOF.out, 0, HG.out.2.2.2, Or.inr (Or.inr ⟨rfl, HRR.out, rfl, rfl⟩)⟩
    | false =>
      cases eb with
      | true =>
        have HRR : Hid (reachR N F L fk tk = false) := hideIt (by unfold reachR; rw [← HBB.out, ← HBE.out, HEB.out]; rfl)
        go_wp2_with fail
        refine (mwrong_any w3 62 (by decide)).mono ?_
        rintro e w9 ⟨er9, rfl, ho9, hb9⟩
        obtain ⟨ty, y, rfl⟩ := ho9.iface
        have HO9 := hideIt ho9
        have HB9 := hideIt (HB3.out.trans (hb9.mono HB3.out.size))
        have HBS := hideIt HB3.out.size
        clear ho9 hb9
        go_wp2
        refine bodyPost_ret (v := .tuple #[.slice none 0 0, .iface ty y]) (by simp [results, Tryz.results19, go_sem]) rfl ?_
        exact ⟨_, 62, _, [], O1, T1, rfl, HG.out.1.next HB9.out, (HG.out.2.1.trans (Goes.of_below HB9.out)).more (by omega), Or.inr ⟨by decide, HO9.out.mono (fun k hk _ => ⟨by have := HG.out.2.2.1; have := HWS.out; have := HBS.out; omega, fun o => by have := HG.out.1.2 _ o; have := HBS.out; omega⟩)⟩, ents_none _ _, 0, HG.out.2.2.2, Or.inr (Or.inl ⟨rfl, HRR.out, rfl, rfl⟩)⟩
      | false =>
        go_wp2_with fail
        refine (mrTo_any w3 _ N F _ ab Bs.length cb L tk (HP1.out.next HB3.out).ap.1 HLL.out.1 HLL.out.2).mono ?_
        rintro e w4 ⟨rfl, hb4⟩
        have HB4 := hideIt (HB3.out.trans (hb4.mono HB3.out.size))
        have HR4 := hideIt (HR3.out.next hb4)
        clear hb4 c0 c1 c2 c3
        obtain ⟨bt, hbt⟩ : ∃ bt, bt = reachT N F L tk := ⟨_, rfl⟩
        rw [← hbt]
        have HBT := hideIt hbt
        clear hbt
        obtain ⟨c0, c1, c2, c3⟩ := HR4.out
        cases bt with
        | false =>
          have HRR : Hid (reachR N F L fk tk = false) := hideIt (by unfold reachR; rw [← HBB.out, ← HBE.out, HEB.out, ← HBT.out]; rfl)
          go_wp2_with fail
          refine (mwrong_any w4 62 (by decide)).mono ?_
          rintro e w9 ⟨er9, rfl, ho9, hb9⟩
          obtain ⟨ty, y, rfl⟩ := ho9.iface
          have HO9 := hideIt ho9
          have HB9 := hideIt (HB4.out.trans (hb9.mono HB4.out.size))
          have HBS := hideIt HB4.out.size
          clear ho9 hb9
          go_wp2
          refine bodyPost_ret (v := .tuple #[.slice none 0 0, .iface ty y]) (by simp [results, Tryz.results19, go_sem]) rfl ?_
          exact ⟨_, 62, _, [], O1, T1, rfl, HG.out.1.next HB9.out, (HG.out.2.1.trans (Goes.of_below HB9.out)).more (by omega), Or.inr ⟨by decide, HO9.out.mono (fun k hk _ => ⟨by have := HG.out.2.2.1; have := HWS.out; have := HBS.out; omega, fun o => by have := HG.out.1.2 _ o; have := HBS.out; omega⟩)⟩, ents_none _ _, 0, HG.out.2.2.2, Or.inr (Or.inl ⟨rfl, HRR.out, rfl, rfl⟩)⟩
        | true =>
          have HRR : Hid (reachR N F L fk tk = true) := hideIt (by unfold reachR; rw [← HBB.out, ← HBE.out, HEB.out, ← HBT.out]; rfl)
          obtain ⟨i0, hi, hi2⟩ := Option.map_eq_some_iff.1 infoEnt
          obtain ⟨hz0, hz1, hz2⟩ : i0.zero = some (.agg #[.string ⟨#[]⟩, .string ⟨#[]⟩, .int .i64 0]) ∧ i0.size = 3 ∧ i0.bytes = 40 := by
            simp only [Prod.mk.injEq] at hi2; exact hi2
          have HI := hideIt (And.intro hi (And.intro hz0 (And.intro hz1 hz2)))
          clear hi2 hi hz0 hz1 hz2
          go_wp2_with fail
          go_loopw [14, 48] (fun ov i wr => ∃ (k m : Nat) (aa : Option Addr) (ac : Nat), k ≤ L.length ∧ i = .int .i64 k ∧ ov = .slice aa m ac ∧ m ≤ k ∧ Hid (wr.ownsRow w4.heap.size 42 3 (.slice aa m ac) m (entsCells ((L.take k).filter (inR fk tk)))) ∧ Hid (Below w4.heap.size w4 wr)) (fun _ i _ => L.length - (intOf i).toNat)
          case atStart => exact ⟨0, 0, none, 0, Nat.zero_le _, rfl, rfl, Nat.le_refl _, World.ownsRow_nil _ _ _ _, Below.refl _ _⟩
          case round =>
            obtain ⟨k, m, aa, ac, hk, rfl, rfl, hmk, HO, HB⟩ := hrel
            by_cases hlt : k < L.length
            case pos =>
              obtain ⟨x, hx⟩ : ∃ x, L[k]? = some x := ⟨L[k], by simp [hlt]⟩
              have HEN := hideIt (((HP1.out.next HB4.out).next HB.out).ap.1)
              obtain ⟨b, off, rfl, _, e0, e1, e2⟩ := EntsIn.at HEN.out hx
              obtain ⟨Wr, hWr, hrb, hrs, t0, t1, t2⟩ := room3 wr 42 (.string ⟨x.1.toArray⟩) (.string ⟨x.2.1.toArray⟩) (.int .i64 x.2.2)
              have HX := hideIt hx
              have HBr := hideIt (HB.out.trans (hrb.mono HB.out.size))
              have HOr : Hid (Wr.ownsRow w4.heap.size 42 3 (.slice aa m ac) m (entsCells ((L.take k).filter (inR fk tk)))) := hideIt (ownsRow_of_block HO.out (fun g hg => hrb.block g (ownsRow_lt HO.out hg)))
              clear hx hrb HO HB c0 c1 c2 c3 t0 t1 t2
              cases q1 : Op.bytesLess x.1 fk with
              | true =>
                have HF : Hid ((L.take (k + 1)).filter (inR fk tk) = (L.take k).filter (inR fk tk)) := hideIt (by rw [filter_snoc HX.out, if_neg (by unfold inR; rw [q1]; simp), List.append_nil])
                go_wp2
                rw [← hWr]
                exact ⟨⟨k + 1, m, aa, ac, by omega, by go_num, rfl, by omega, by rw [HF.out]; exact HOr, HBr⟩, by simp [intOf]; omega⟩
              | false =>
                cases q2 : Op.bytesLess x.1 tk with
                | true =>
                  have HF : Hid ((L.take (k + 1)).filter (inR fk tk) = (L.take k).filter (inR fk tk) ++ [x]) := hideIt (by rw [filter_snoc HX.out, if_pos (by unfold inR; rw [q1, q2, HEB.out]; rfl)])
                  obtain ⟨U, hU, hUb, hUs, hUo⟩ := lit_one Wr x
                  have HU := hideIt (And.intro (HBr.out.trans (hUb.mono HBr.out.size)) (And.intro (RowIn.of_own (A := fun k => Wr.heap.size ≤ k) hUo (fun _ h => h) : EntsIn U (fun k => Wr.heap.size ≤ k) _ [x]) (ownsRow_of_block HOr.out (fun g hg => hUb.block g (ownsRow_lt HOr.out hg)) : U.ownsRow w4.heap.size 42 3 (.slice aa m ac) m (entsCells ((L.take k).filter (inR fk tk))))))
                  clear hUb hUs hUo
                  rw [hrs] at HU
                  rw [hWr] at hU
                  go_wp2_with (at_builtin; rw [← hU]; refine wpList_append_ents rfl _ _ 22 rfl w4.heap.size 42 i0 (.agg #[.string ⟨#[]⟩, .string ⟨#[]⟩, .int .i64 0]) Tryz.underlying22 HI.out.1 HI.out.2.1 HI.out.2.2.1 HI.out.2.2.2 rfl _ m _ rfl HU.out.2.2 _ _ _ rfl HU.out.2.1 (by simp only [List.length_cons, List.length_nil]; omega) HU.out.1.size ?_)
                  intro v' w7 h1 h2 _
                  try rw [← hU] at h2
                  have HB7 := hideIt (HU.out.1.grown h2 HU.out.1.size (fun k hk => (World.ownsRow.lt HU.out.2.2 k hk).1))
                  obtain ⟨az, capz, rfl⟩ := own_form h1
                  have HO7 : Hid (w7.ownsRow w4.heap.size 42 3 (.slice az (m + 1) capz) (m + 1) (entsCells ((L.take (k + 1)).filter (inR fk tk)))) := hideIt (by rw [HF.out, entsCells_append]; exact h1)
                  clear h1 h2 HU hU HOr HBr
                  go_wp2
                  exact ⟨⟨k + 1, m + 1, az, capz, by omega, by go_num, rfl, by omega, HO7, HB7⟩, by simp [intOf]; omega⟩
                | false =>
                  have HF : Hid ((L.take (k + 1)).filter (inR fk tk) = (L.take k).filter (inR fk tk)) := hideIt (by rw [filter_snoc HX.out, if_neg (by unfold inR; rw [q1, q2, HEB.out]; simp), List.append_nil])
                  go_wp2
                  rw [← hWr]
                  exact ⟨⟨k + 1, m, aa, ac, by omega, by go_num, rfl, by omega, by rw [HF.out]; exact HOr, HBr⟩, by simp [intOf]; omega⟩
            case neg =>
              obtain rfl : k = L.length := by omega
              have HOF : Hid (EntsAp wr O1 (.slice aa m ac) (L.filter (inR fk tk))) := hideIt (by
                have h := HO.out
                rw [List.take_length] at h
                have h2 := RowIn.of_own (A := fun k => w4.heap.size ≤ k) h (fun _ h => h)
                have h3 : m = (L.filter (inR fk tk)).length := by have := h.1; rw [entsCells_len] at this; omega
                rw [h3] at h2 ⊢
                exact RowIn.mono h2 (fun k hk hl => ⟨hl, fun o => by have := HG.out.1.2 _ o; have := HB4.out.size; omega⟩))
              have HBF := hideIt (HB4.out.trans (HB.out.mono HB4.out.size))
              clear HO HB
              go_wp2
              refine bodyPost_ret (v := .tuple #[.slice aa m ac, .nilIface]) (by simp [results, Tryz.results19, go_sem]) rfl ?_
              exact ⟨_, 0, _, _, O1, T1, rfl, HG.out.1.next HBF.out, (HG.out.2.1.trans (Goes.of_below HBF.out)).more (by omega), Or.inl ⟨rfl, rfl⟩, HOF.out, 0, HG.out.2.2.2, Or.inr (Or.inr ⟨rfl, HRR.out, rfl, rfl⟩)⟩

theorem inR_low {fk tk : List UInt8} {e : Ent} (h : Op.bytesLess e.1 fk = true) : inR fk tk e = false := by unfold inR; rw [h]; rfl
theorem inR_high {fk tk : List UInt8} {e : Ent} (h1 : (tk == []) = false) (h2 : Op.bytesLess e.1 tk = false) : inR fk tk e = false := by unfold inR; rw [h1, h2]; simp
/-- what Range tells of the root's entries -/
theorem range_plain {l : List Ent} {F : Nat} {L : List Ent} {fk tk : List UInt8} (hr : Right l) (hL : L = part l F L.length) (hle : F + L.length ≤ l.length) (h : reachR l.length F L fk tk = true) : L.filter (inR fk tk) = l.filter (inR fk tk) := by
  have hg : ∀ j, j < L.length → L[j]? = l[F + j]? := fun j hj => by
    have := part_get (l := l) (F := F) (m := L.length) hj
    rw [← hL] at this
    exact this
  unfold reachR at h
  rw [Bool.and_eq_true, Bool.or_eq_true, Bool.and_eq_true] at h
  obtain ⟨hb, ht⟩ := h
  have h1 : (l.take F).filter (inR fk tk) = [] := by
    rw [List.filter_eq_nil_iff]
    intro e he
    obtain ⟨i, hi⟩ := List.getElem?_of_mem he
    have hiF : i < F := by have := (List.getElem?_eq_some_iff.1 hi).1; rw [List.length_take] at this; omega
    rw [List.getElem?_take_of_lt hiF] at hi
    unfold reachB at hb
    rw [Bool.or_eq_true] at hb
    rcases hb with hb | hb
    · have := eq_of_beq hb; omega
    · cases h0 : L[0]? with
      | none => rw [h0] at hb; cases hb
      | some e0 =>
        rw [h0] at hb
        have hl0 : 0 < L.length := (List.getElem?_eq_some_iff.1 h0).1
        have h1 := right_rise hr (j := F + 0) (by omega) hi (by rw [← hg 0 hl0]; exact h0)
        rw [inR_low (kLt_trans h1 hb)]; decide
  have h2 : (l.drop (F + L.length)).filter (inR fk tk) = [] := by
    rw [List.filter_eq_nil_iff]
    intro e he
    obtain ⟨i, hi⟩ := List.getElem?_of_mem he
    rw [List.getElem?_drop] at hi
    have hil := (List.getElem?_eq_some_iff.1 hi).1
    have hne : ¬ reachE l.length F L = true := by
      unfold reachE
      intro h
      have := eq_of_beq h; omega
    rcases ht with ht | ⟨ht1, ht⟩
    · exact absurd ht hne
    · unfold reachT at ht
      rw [Bool.or_eq_true] at ht
      rcases ht with ht | ht
      · exact absurd ht hne
      · cases h0 : L[L.length - 1]? with
        | none => rw [h0] at ht; cases ht
        | some e1 =>
          rw [h0] at ht
          have hl0 : L.length - 1 < L.length := (List.getElem?_eq_some_iff.1 h0).1
          have h1 := right_rise hr (i := F + (L.length - 1)) (by omega) (by rw [← hg _ hl0]; exact h0) hi
          have h3 : Op.bytesLess e.1 tk = false := by
            cases h4 : Op.bytesLess e.1 tk with
            | false => rfl
            | true =>
              have h5 : Op.bytesLess e1.1 tk = true := kLt_trans h1 h4
              simp only [h5] at ht
              cases ht
          rw [inR_high (by simpa using ht1) h3]; decide
  have e1 : l = l.take F ++ (L ++ l.drop (F + L.length)) := by
    conv => lhs; rw [← List.take_append_drop F l]
    congr 1
    rw [← List.drop_drop]
    conv => rhs; lhs; rw [hL]
    exact (List.take_append_drop L.length (l.drop F)).symm
  rw [e1, List.filter_append, List.filter_append, h1, h2]
  simp
/-- the proof of all leaves out nothing -/
theorem reach_all {l : List Ent} {fk tk : List UInt8} : reachR (l.length : Int) 0 (part l 0 l.length) fk tk = true := by
  unfold reachR reachB reachE
  rw [part_length (by omega)]
  simp

set_option maxRecDepth 100000 in
set_option maxHeartbeats 16000000 in
theorem mrange_true (v : Value) (l : List Ent) (fk tk : List UInt8) (N F : Int) (vl vb : Value) (L : List Ent) (Bs : List Int) (w : World) (hv : EntsIn w (· < w.heap.size) v l) (hn : l.length ≤ maxLen) (hcap : ∀ a cap, v = .slice a l.length cap → l.length ≤ cap) (hm : ∀ e ∈ l, EntOk e) (hp : ProofOk w (fun _ => False) N F vl vb L Bs) (hpm : ∀ e ∈ L, EntOk e) (hg : ET w) (ht : PT w) :
    Calls Tryz.prog 6 #[v, .string ⟨fk.toArray⟩, .string ⟨tk.toArray⟩, .agg #[.int .i64 N, .int .i64 F, vl, vb]] w fun e w' => e = .returned (.bool true) ∧ Below w.heap.size w w' := by
  have HV0 : Hid (Env w w) := ⟨Below.refl _ _, hg, ht⟩
  have HH := hideIt (fun (w' : World) (h : Env w w') => head06_true w' h.et h.pt)
  have HA := hideIt (And.intro hv (And.intro hn (And.intro hcap (And.intro hm (And.intro hp hpm)))))
  obtain ⟨a, cap, rfl⟩ := hv.form
  obtain ⟨al, cl, rfl⟩ := hp.ap.1.form
  obtain ⟨ab, cb, rfl⟩ := NumsIn.form hp.ap.2
  obtain ⟨W, hW, hwb, hws, hc4, _⟩ := room4 w 25 (.int .i64 N) (.int .i64 F) (.slice al L.length cl) (.slice ab Bs.length cb)
  have HC : Hid (R4 W w.heap.size (.int .i64 N) (.int .i64 F) (.slice al L.length cl) (.slice ab Bs.length cb)) := hideIt hc4
  have HVW := hideIt (HV0.out.next hwb)
  have HWS := hideIt hws
  have HWB := hideIt hwb
  clear hg ht hv hn hcap hm hp hpm hc4 hwb hws
  go_enter Tryz.func6, Tryz.ntmps6
  go_wp2_with fail
  rw [← hW]
  clear hW
  refine (HH.out W HVW.out).mono ?_
  rintro e w1 ⟨rfl, hb1⟩
  have HE1 : Hid (Below W.heap.size W w1) := hideIt hb1
  have HV1 := hideIt (HVW.out.next hb1)
  clear hb1 HH
  go_wp2_with fail
  refine (bNew_any w1).mono ?_
  rintro e w2 ⟨p, rfl, hs, hb⟩
  have HS2 := hideIt (St.new HV1.out hs hb)
  have HE2 := hideIt (HE1.out.trans (hb.mono HE1.out.size))
  obtain ⟨O2, hO2⟩ : ∃ O2 : Nat → Prop, O2 = fun k => w1.heap.size ≤ k ∧ k < w2.heap.size := ⟨_, rfl⟩
  rw [← hO2] at HS2
  have HO2 : Hid (∀ k, O2 k → W.heap.size ≤ k) := hideIt (fun k hk => by rw [hO2] at hk; exact Nat.le_trans HE1.out.size hk.1)
  clear hs hb hO2
  go_wp2_with fail
  refine (great06_any _ _ l w2 (HA.out.1.kept (Kept.of_below (HWB.out.trans (HE2.out.mono HWB.out.size)) (fun _ h _ => h))) HA.out.2.1 (fun x hx => ⟨(HA.out.2.2.2.1 x hx).1, (HA.out.2.2.2.1 x hx).2.1⟩)).mono ?_
  rintro e w3 ⟨⟨g, rfl, hgl⟩, hb3⟩
  have HE3 := hideIt (HE2.out.trans (hb3.mono HE2.out.size))
  have HS3 := hideIt (HS2.out.next hb3)
  clear hb3 HE2 HS2
  cases g with
  | true =>
    go_wp2
    go_ret
    exact ⟨rfl, HS3.out.env.1⟩
  | false =>
  have hl6 : l.length ≤ 6000 := hgl rfl
  have HC3 := hideIt (HC.out.next HE3.out)
  have HP3 : Hid (ProofOk w3 O2 N F (.slice al L.length cl) (.slice ab Bs.length cb) L Bs) := hideIt (HA.out.2.2.2.2.1.start (HWB.out.trans (HE3.out.mono HWB.out.size)) (fun k hk => Nat.le_trans HWB.out.size (HO2.out k hk)))
  have HL3 : Hid (EntsAp w3 O2 (.slice a l.length cap) l) := hideIt (EntsAp.start HA.out.1 (HWB.out.trans (HE3.out.mono HWB.out.size)) (fun k hk => Nat.le_trans HWB.out.size (HO2.out k hk)))
  have HNO : Hid (¬ O2 w.heap.size) := hideIt (fun o => by have := HO2.out _ o; have := HWS.out; omega)
  clear HE3 hgl
  obtain ⟨c0, c1, c2, c3⟩ := HC3.out
  go_wp2_with fail
  refine (greatP06_any _ N F _ ab Bs.length cb L w3 HP3.out.ap.1 HP3.out.lL (fun x hx => ⟨(HA.out.2.2.2.2.2 x hx).1, (HA.out.2.2.2.2.2 x hx).2.1⟩) HP3.out.lB).mono ?_
  rintro e w4 ⟨⟨g, rfl, _⟩, hb4⟩
  have HS4 := hideIt (HS3.out.next hb4)
  have HP4 := hideIt (HP3.out.next hb4)
  have HL4 := hideIt (HL3.out.next hb4)
  have HC4 := hideIt (HC3.out.next hb4)
  clear hb4 HS3 HP3 HL3 HC3 c0 c1 c2 c3
  cases g with
  | true =>
    go_wp2
    go_ret
    exact ⟨rfl, HS4.out.env.1⟩
  | false =>
  by_cases hr : Right l
  case neg =>
    go_wp2_with fail
    refine (mRoot_bad w4 _ _ _ l HL4.out HA.out.2.1 hr).mono ?_
    rintro e w5 ⟨er, rfl, ho, hb5⟩
    obtain ⟨ty, y, rfl⟩ := ho.iface
    have HS5 := hideIt (HS4.out.next hb5)
    clear ho hb5 hr
    go_wp2
    go_ret
    exact ⟨rfl, HS5.out.env.1⟩
  case pos =>
  have HR := hideIt hr
  have HLE := hideIt (cost_le hr)
  have hll : l.length ≤ 1024 := hr.1
  clear hr
  go_wp2_with fail
  refine (mRoot_ok w4 p O2 [] _ l HS4.out.bk HL4.out (fun e he => (HA.out.2.2.2.1 e he).2.2) HR.out (by simp; have := HLE.out; omega)).mono ?_
  rintro e w5 ⟨root, O5, T5, rfl, g1, g2, g3, g4⟩
  have HS5 := hideIt (HS4.out.goes g1 g2)
  have HP5 := hideIt (HP4.out.goes g2)
  have HL5 := hideIt (HL4.out.goes g2)
  have HC5 := hideIt (HC4.out.goes g2 HNO.out)
  have HN5 := hideIt (g2.not HC4.out.lt HNO.out)
  have HT5 : Hid (T5.length ≤ 2048) := hideIt (by have h := g2.len; simp at h; have := HLE.out; omega)
  have HR5 := hideIt g3
  clear g1 g2 g3 g4 HS4 HP4 HL4 HC4 HNO
  obtain ⟨i0, hi, hi2⟩ := Option.map_eq_some_iff.1 infoEnt
  obtain ⟨hz0, hz1, hz2⟩ : i0.zero = some (.agg #[.string ⟨#[]⟩, .string ⟨#[]⟩, .int .i64 0]) ∧ i0.size = 3 ∧ i0.bytes = 40 := by
    simp only [Prod.mk.injEq] at hi2; exact hi2
  have HI := hideIt (And.intro hi (And.intro hz0 (And.intro hz1 hz2)))
  clear hi2 hi hz0 hz1 hz2
  obtain ⟨c0, c1, c2, c3⟩ := HC5.out
  go_wp2_with fail
  go_loopw [13, 14] (fun ov i wr => ∃ (k m : Nat) (aa : Option Addr) (ac : Nat), k ≤ l.length ∧ i = .int .i64 k ∧ ov = .slice aa m ac ∧ m ≤ k ∧ Hid (wr.ownsRow w5.heap.size 42 3 (.slice aa m ac) m (entsCells ((l.take k).filter (inR fk tk)))) ∧ Hid (Below w5.heap.size w5 wr)) (fun _ i _ => l.length - (intOf i).toNat)
  case atStart => exact ⟨0, 0, none, 0, Nat.zero_le _, rfl, rfl, Nat.le_refl _, World.ownsRow_nil _ _ _ _, Below.refl _ _⟩
  case round =>
    obtain ⟨k, m, aa, ac, hk, rfl, rfl, hmk, HO, HB⟩ := hrel
    by_cases hlt : k < l.length
    case pos =>
      obtain ⟨x, hx⟩ : ∃ x, l[k]? = some x := ⟨l[k], by simp [hlt]⟩
      have HEN := hideIt (HL5.out.next HB.out)
      obtain ⟨b, off, rfl, _, e0, e1, e2⟩ := EntsIn.at HEN.out hx
      have HX := hideIt hx
      clear hx c0 c1 c2 c3
      cases q1 : Op.bytesLess x.1 fk with
      | true =>
        have HF : Hid ((l.take (k + 1)).filter (inR fk tk) = (l.take k).filter (inR fk tk)) := hideIt (by rw [filter_snoc HX.out, if_neg (by unfold inR; rw [q1]; simp), List.append_nil])
        go_wp2
        exact ⟨⟨k + 1, m, aa, ac, by omega, by go_num, rfl, by omega, by rw [HF.out]; exact HO, HB⟩, by simp [intOf]; omega⟩
      | false =>
        cases q3 : tk == [] with
        | true =>
          have HF : Hid ((l.take (k + 1)).filter (inR fk tk) = (l.take k).filter (inR fk tk) ++ [x]) := hideIt (by rw [filter_snoc HX.out, if_pos (by unfold inR; rw [q1, q3]; rfl)])
          obtain ⟨U, hU, hUb, hUs, hUo⟩ := lit_one wr x
          have HU := hideIt (And.intro (HB.out.trans (hUb.mono HB.out.size)) (And.intro (RowIn.of_own (A := fun k => wr.heap.size ≤ k) hUo (fun _ h => h) : EntsIn U (fun k => wr.heap.size ≤ k) _ [x]) (ownsRow_of_block HO.out (fun g hg => hUb.block g (ownsRow_lt HO.out hg)) : U.ownsRow w5.heap.size 42 3 (.slice aa m ac) m (entsCells ((l.take k).filter (inR fk tk))))))
          clear hUb hUs hUo
          go_wp2_with (at_builtin; rw [← hU]; refine wpList_append_ents rfl _ _ 22 rfl w5.heap.size 42 i0 (.agg #[.string ⟨#[]⟩, .string ⟨#[]⟩, .int .i64 0]) Tryz.underlying22 HI.out.1 HI.out.2.1 HI.out.2.2.1 HI.out.2.2.2 rfl _ m _ rfl HU.out.2.2 _ _ _ rfl HU.out.2.1 (by simp only [List.length_cons, List.length_nil]; omega) HU.out.1.size ?_)
          intro v' w7 h1 h2 _
          try rw [← hU] at h2
          have HB7 := hideIt (HU.out.1.grown h2 HU.out.1.size (fun k hk => (World.ownsRow.lt HU.out.2.2 k hk).1))
          obtain ⟨az, capz, rfl⟩ := own_form h1
          have HO7 : Hid (w7.ownsRow w5.heap.size 42 3 (.slice az (m + 1) capz) (m + 1) (entsCells ((l.take (k + 1)).filter (inR fk tk)))) := hideIt (by rw [HF.out, entsCells_append]; exact h1)
          clear h1 h2 HU hU HO HB
          go_wp2
          exact ⟨⟨k + 1, m + 1, az, capz, by omega, by go_num, rfl, by omega, HO7, HB7⟩, by simp [intOf]; omega⟩
        | false =>
          cases q2 : Op.bytesLess x.1 tk with
          | true =>
            have HF : Hid ((l.take (k + 1)).filter (inR fk tk) = (l.take k).filter (inR fk tk) ++ [x]) := hideIt (by rw [filter_snoc HX.out, if_pos (by unfold inR; rw [q1, q2, q3]; rfl)])
            obtain ⟨U, hU, hUb, hUs, hUo⟩ := lit_one wr x
            have HU := hideIt (And.intro (HB.out.trans (hUb.mono HB.out.size)) (And.intro (RowIn.of_own (A := fun k => wr.heap.size ≤ k) hUo (fun _ h => h) : EntsIn U (fun k => wr.heap.size ≤ k) _ [x]) (ownsRow_of_block HO.out (fun g hg => hUb.block g (ownsRow_lt HO.out hg)) : U.ownsRow w5.heap.size 42 3 (.slice aa m ac) m (entsCells ((l.take k).filter (inR fk tk))))))
            clear hUb hUs hUo
            go_wp2_with (at_builtin; rw [← hU]; refine wpList_append_ents rfl _ _ 22 rfl w5.heap.size 42 i0 (.agg #[.string ⟨#[]⟩, .string ⟨#[]⟩, .int .i64 0]) Tryz.underlying22 HI.out.1 HI.out.2.1 HI.out.2.2.1 HI.out.2.2.2 rfl _ m _ rfl HU.out.2.2 _ _ _ rfl HU.out.2.1 (by simp only [List.length_cons, List.length_nil]; omega) HU.out.1.size ?_)
            intro v' w7 h1 h2 _
            try rw [← hU] at h2
            have HB7 := hideIt (HU.out.1.grown h2 HU.out.1.size (fun k hk => (World.ownsRow.lt HU.out.2.2 k hk).1))
            obtain ⟨az, capz, rfl⟩ := own_form h1
            have HO7 : Hid (w7.ownsRow w5.heap.size 42 3 (.slice az (m + 1) capz) (m + 1) (entsCells ((l.take (k + 1)).filter (inR fk tk)))) := hideIt (by rw [HF.out, entsCells_append]; exact h1)
            clear h1 h2 HU hU HO HB
            go_wp2
            exact ⟨⟨k + 1, m + 1, az, capz, by omega, by go_num, rfl, by omega, HO7, HB7⟩, by simp [intOf]; omega⟩
          | false =>
            have HF : Hid ((l.take (k + 1)).filter (inR fk tk) = (l.take k).filter (inR fk tk)) := hideIt (by rw [filter_snoc HX.out, if_neg (by unfold inR; rw [q1, q2, q3]; simp), List.append_nil])
            go_wp2
            exact ⟨⟨k + 1, m, aa, ac, by omega, by go_num, rfl, by omega, by rw [HF.out]; exact HO, HB⟩, by simp [intOf]; omega⟩
    case neg =>
      obtain rfl : k = l.length := by omega
      have HM : Hid (m = (l.filter (inR fk tk)).length) := hideIt (by have h := HO.out; rw [List.take_length] at h; have := h.1; rw [entsCells_len] at this; omega)
      have HW6 : Hid (EntsAp wr O5 (.slice aa m ac) (l.filter (inR fk tk))) := hideIt (by
        have h := HO.out
        rw [List.take_length] at h
        have h2 := RowIn.of_own (A := fun k => w5.heap.size ≤ k) h (fun _ h => h)
        rw [HM.out] at h2 ⊢
        exact RowIn.mono h2 (fun k hk hl => ⟨hl, fun o => by have := HS5.out.bk.2 _ o; omega⟩))
      have HS6 := hideIt (HS5.out.next HB.out)
      have HP6 := hideIt (HP5.out.next HB.out)
      have HL6 := hideIt (HL5.out.next HB.out)
      have HC6 := hideIt (HC5.out.next HB.out)
      clear HO HB HS5 HP5 HL5 HC5 c0 c1 c2 c3 hlt hk hmk
      obtain ⟨c0, c1, c2, c3⟩ := HC6.out
      go_wp2_with fail
      refine (mRange_any wr p O5 T5 root N F _ _ L Bs fk tk HS6.out.bk HP6.out (by have := HT5.out; omega)).mono ?_
      rintro e w7 ⟨er, c, v7, R, O7, T7, rfl, g1, g2, g3, g4, g5⟩
      have HS7 := hideIt (HS6.out.goes g1 g2)
      have HL7 := hideIt (HL6.out.goes g2)
      have HW7 := hideIt (HW6.out.goes g2)
      have HR7 := hideIt (HR5.out.more g2.exts)
      have HT7 : Hid (T7.length ≤ 4096) := hideIt (by have h := g2.len; have := HT5.out; omega)
      have HV7 := hideIt g4
      obtain ⟨a7, cp7, rfl⟩ := g4.form
      have HQ : Hid (c = 0 → R = l.filter (inR fk tk)) := hideIt (by
        intro hc
        obtain ⟨z, h1, h2⟩ := g5
        rcases h2 with ⟨h, h3, _⟩ | ⟨_, _, h, _⟩ | ⟨hz, hrr, _, hR⟩
        · omega
        · omega
        · subst hz
          have hs : Shaped N F L Bs ∧ RootMade T7 N.toNat F.toNat L Bs root := by
            rcases h1 with ⟨_, h1, h2⟩ | ⟨e, _⟩ | ⟨e, _⟩
            · exact ⟨h1, h2⟩
            · omega
            · omega
          obtain ⟨m1, m2, m3, m4⟩ := made_leaves HR.out.1 HR7.out hs.1 hs.2
          obtain ⟨F', hF'⟩ : ∃ F' : Nat, F = F' := ⟨F.toNat, by omega⟩
          subst hF' m1
          simp only [Int.toNat_natCast] at m3 m4
          rw [hR]
          exact range_plain HR.out m4 (by omega) hrr)
      have hef := g3.form
      clear g1 g2 g3 g4 g5 HS6 HP6 HL6 HC6 HW6 HR5 HT5 c0 c1 c2 c3
      rcases hef with ⟨hc, rfl⟩ | ⟨hc, t, y, rfl⟩
      case inl =>
        have hRf := HQ.out hc
        have HSM := Same06_any _ _ _ _ R (l.filter (inR fk tk)) w7 HV7.out (by rw [HM.out] at HW7; exact HW7.out) (by rw [hRf]; exact Nat.le_trans (List.length_filter_le _ _) (by unfold maxLen; omega))
        rw [decide_eq_true hRf, ← HM.out] at HSM
        have HSM1 := hideIt HSM
        clear HSM hRf hc HQ HV7
        go_wp2_with fail
        refine HSM1.out.mono ?_
        rintro e w8 ⟨rfl, hb8⟩
        have HS8 := hideIt (HS7.out.next hb8)
        have HL8 := hideIt (HL7.out.next hb8)
        have HW8 := hideIt (HW7.out.next hb8)
        clear hb8 HS7 HL7 HW7 HSM1
        go_wp2_with fail
        refine (mProve_ok w8 p O7 T7 _ l 0 l.length HS8.out.bk HL8.out (fun e he => (HA.out.2.2.2.1 e he).2.2) HR.out (by omega) (by have := HLE.out; have := HT7.out; omega) HA.out.2.2.1).mono ?_
        rintro e w9 ⟨f, vl9, vb9, ds, O9, T9, rfl, g1, g2, g3, gg, g5⟩
        obtain ⟨al9, cl9, rfl⟩ := g3.1.form
        obtain ⟨ab9, cb9, rfl⟩ := NumsIn.form g3.2
        have hpl : (part l 0 l.length).length = l.length := part_length (by omega)
        obtain ⟨W9, hW, hwb, hws, hr4, _⟩ := room4 w9 25 (.int .i64 l.length) (.int .i64 0) (.slice al9 (part l 0 l.length).length cl9) (.slice ab9 ds.length cb9)
        have HS9 := hideIt ((HS8.out.goes g1 g2).next hwb)
        have HW9 := hideIt ((HW8.out.goes g2).next hwb)
        have HR9 := hideIt (HR7.out.more g2.exts)
        have HT9 : Hid (T9.length ≤ 6144) := hideIt (by have h := g2.len; have := HLE.out; have := HT7.out; omega)
        have HG9 := hideIt (And.intro gg g5)
        have HP9 : Hid (ProofOk W9 O9 l.length 0 (.slice al9 (part l 0 l.length).length cl9) (.slice ab9 ds.length cb9) (part l 0 l.length) ds) := hideIt
          { ap := ⟨g3.1.next hwb, RowIn.mono (RowIn.kept g3.2 (Kept.of_all hwb)) (fun _ hk hl => ⟨hl, hk.2⟩)⟩
            fN := by unfold fits; omega
            fF := by unfold fits; omega
            fE := fun e he => (HA.out.2.2.2.1 e (by rw [part_all] at he; exact he)).2.2
            fB := fun d hd => by have := gg.1 d hd; unfold fits; omega
            lL := by unfold maxLen; omega
            lB := by have := gg.2; unfold maxLen; omega }
        rw [hpl] at HP9 hr4 hW
        obtain ⟨c0, c1, c2, c3⟩ := hr4
        clear g1 g2 g3 gg g5 hwb hws HS8 HL8 HW8 HR7 HT7
        rw [hpl]
        clear hpl
        go_wp2_with fail
        rw [← hW]
        clear hW
        refine (mRange_any W9 p O9 T9 root l.length 0 _ _ (part l 0 l.length) ds fk tk HS9.out.bk HP9.out (by have := HT9.out; omega)).mono ?_
        rintro e wa ⟨er2, c9, va, Ra, Oa, Ta, rfl, g1, g2, g3, g4, g5⟩
        have HSA := hideIt (HS9.out.goes g1 g2)
        have HWA := hideIt (HW9.out.goes g2)
        have HVA := hideIt g4
        obtain ⟨hc9, hRa⟩ : c9 = 0 ∧ Ra = l.filter (inR fk tk) := by
          obtain ⟨z, h1, h2⟩ := g5
          have hz : z = 0 := taken g2.exts g1.once HR9.out HG9.out.2 (by omega) HR.out (fun d hd => (HG9.out.1.1 d hd).1) h1
          rcases h2 with ⟨h, _⟩ | ⟨_, h, _⟩ | ⟨_, _, h1, h2⟩
          · exact absurd hz h
          · rw [reach_all] at h; cases h
          · refine ⟨h1, ?_⟩
            rw [h2, part_all]
        subst hc9
        obtain ⟨_, rfl⟩ := g3.form.resolve_right (fun h => h.1 rfl)
        obtain ⟨aa9, cap9, rfl⟩ := g4.form
        have HSM := Same06_any _ _ _ _ Ra (l.filter (inR fk tk)) wa g4 HWA.out (by rw [hRa]; exact Nat.le_trans (List.length_filter_le _ _) (by unfold maxLen; omega))
        rw [decide_eq_true hRa] at HSM
        have HSM2 := hideIt HSM
        clear g1 g2 g3 g4 g5 HSM HS9 HW9 HR9 HT9 HG9 HP9 HVA hRa c0 c1 c2 c3
        go_wp2_with fail
        refine HSM2.out.mono ?_
        rintro e wz ⟨rfl, hbz⟩
        have HSZ := hideIt (HSA.out.next hbz)
        clear hbz HSA HSM2 HWA
        go_wp2
        go_ret
        exact ⟨rfl, HSZ.out.env.1⟩
      case inr =>
        clear hc HQ HV7
        go_wp2_with fail
        refine (mProve_ok w7 p O7 T7 _ l 0 l.length HS7.out.bk HL7.out (fun e he => (HA.out.2.2.2.1 e he).2.2) HR.out (by omega) (by have := HLE.out; have := HT7.out; omega) HA.out.2.2.1).mono ?_
        rintro e w9 ⟨f, vl9, vb9, ds, O9, T9, rfl, g1, g2, g3, gg, g5⟩
        obtain ⟨al9, cl9, rfl⟩ := g3.1.form
        obtain ⟨ab9, cb9, rfl⟩ := NumsIn.form g3.2
        have hpl : (part l 0 l.length).length = l.length := part_length (by omega)
        obtain ⟨W9, hW, hwb, hws, hr4, _⟩ := room4 w9 25 (.int .i64 l.length) (.int .i64 0) (.slice al9 (part l 0 l.length).length cl9) (.slice ab9 ds.length cb9)
        have HS9 := hideIt ((HS7.out.goes g1 g2).next hwb)
        have HW9 := hideIt ((HW7.out.goes g2).next hwb)
        have HR9 := hideIt (HR7.out.more g2.exts)
        have HT9 : Hid (T9.length ≤ 6144) := hideIt (by have h := g2.len; have := HLE.out; have := HT7.out; omega)
        have HG9 := hideIt (And.intro gg g5)
        have HP9 : Hid (ProofOk W9 O9 l.length 0 (.slice al9 (part l 0 l.length).length cl9) (.slice ab9 ds.length cb9) (part l 0 l.length) ds) := hideIt
          { ap := ⟨g3.1.next hwb, RowIn.mono (RowIn.kept g3.2 (Kept.of_all hwb)) (fun _ hk hl => ⟨hl, hk.2⟩)⟩
            fN := by unfold fits; omega
            fF := by unfold fits; omega
            fE := fun e he => (HA.out.2.2.2.1 e (by rw [part_all] at he; exact he)).2.2
            fB := fun d hd => by have := gg.1 d hd; unfold fits; omega
            lL := by unfold maxLen; omega
            lB := by have := gg.2; unfold maxLen; omega }
        rw [hpl] at HP9 hr4 hW
        obtain ⟨c0, c1, c2, c3⟩ := hr4
        clear g1 g2 g3 gg g5 hwb hws HS7 HL7 HW7 HR7 HT7
        rw [hpl]
        clear hpl
        go_wp2_with fail
        rw [← hW]
        clear hW
        refine (mRange_any W9 p O9 T9 root l.length 0 _ _ (part l 0 l.length) ds fk tk HS9.out.bk HP9.out (by have := HT9.out; omega)).mono ?_
        rintro e wa ⟨er2, c9, va, Ra, Oa, Ta, rfl, g1, g2, g3, g4, g5⟩
        have HSA := hideIt (HS9.out.goes g1 g2)
        have HWA := hideIt (HW9.out.goes g2)
        have HVA := hideIt g4
        obtain ⟨hc9, hRa⟩ : c9 = 0 ∧ Ra = l.filter (inR fk tk) := by
          obtain ⟨z, h1, h2⟩ := g5
          have hz : z = 0 := taken g2.exts g1.once HR9.out HG9.out.2 (by omega) HR.out (fun d hd => (HG9.out.1.1 d hd).1) h1
          rcases h2 with ⟨h, _⟩ | ⟨_, h, _⟩ | ⟨_, _, h1, h2⟩
          · exact absurd hz h
          · rw [reach_all] at h; cases h
          · refine ⟨h1, ?_⟩
            rw [h2, part_all]
        subst hc9
        obtain ⟨_, rfl⟩ := g3.form.resolve_right (fun h => h.1 rfl)
        obtain ⟨aa9, cap9, rfl⟩ := g4.form
        have HSM := Same06_any _ _ _ _ Ra (l.filter (inR fk tk)) wa g4 HWA.out (by rw [hRa]; exact Nat.le_trans (List.length_filter_le _ _) (by unfold maxLen; omega))
        rw [decide_eq_true hRa] at HSM
        have HSM2 := hideIt HSM
        clear g1 g2 g3 g4 g5 HSM HS9 HW9 HR9 HT9 HG9 HP9 HVA hRa c0 c1 c2 c3
        go_wp2_with fail
        refine HSM2.out.mono ?_
        rintro e wz ⟨rfl, hbz⟩
        have HSZ := hideIt (HSA.out.next hbz)
        clear hbz HSA HSM2 HWA
        go_wp2
        go_ret
        exact ⟨rfl, HSZ.out.env.1⟩
end Go.Proofs.YtmhbfplaglipnaaGreatDoor
