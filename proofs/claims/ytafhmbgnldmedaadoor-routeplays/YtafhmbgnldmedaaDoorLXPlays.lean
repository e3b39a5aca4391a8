/-
  What is proved here: the walk of cohortlaw09.RoutePlays, over this program.
-/
import Derived.Test.YtafhmbgnldmedaaDoorPS
import Derived.Test.YtafhmbgnldmedaaDoorPM
import Derived.Deep.RegionWith
import Derived.Deep.RegionHeld3
import Derived.BigQuiet
namespace Go.Proofs.YtafhmbgnldmedaaDoor
open Go.RowKit Go.Extern.Stop Go.Stop Go.Extern

/-- two routes, the program's at p and the document's at q -/
structure Ps (w0 w : World) (p : Nat) (lp : List Pc) (q : Nat) (lq : List Pc) : Prop where
  env : Env w0 w
  rp : Rt w p (fun k => k ≠ p ∧ k ≠ q) lp
  rq : Rt w q (fun k => k ≠ p ∧ k ≠ q) lq
  ne : p ≠ q
  lowp : w0.heap.size ≤ p
  lowq : w0.heap.size ≤ q
  fitp : FitP lp
  fitq : FitP lq
theorem Ps.next {w0 w w' : World} {p q : Nat} {lp lq : List Pc} (h : Ps w0 w p lp q lq) (hb : Below w.heap.size w w') : Ps w0 w' p lp q lq := ⟨h.env.next hb, h.rp.next hb, h.rq.next hb, h.ne, h.lowp, h.lowq, h.fitp, h.fitq⟩
theorem Ps.moveP {w0 w w' : World} {p q : Nat} {lp lq l' : List Pc} {fk tk : List UInt8} {s n at' : Int} (h : Ps w0 w p lp q lq) (hr : Rt w' p (fun b => (b ≠ p ∧ b ≠ q) ∨ w.heap.size ≤ b) l') (hg : w.grownBy w' (some p)) (hm : MoveIs lp fk tk s n at' l') : Ps w0 w' p l' q lq :=
  ⟨h.env.grown hg h.lowp, hr.mono (fun b hb _ => by
    have h1 := h.rp.lt
    have h2 := h.rq.lt
    rcases hb with e | e
    · exact e
    · exact ⟨by omega, by omega⟩) (fun h => h.1 rfl), h.rq.grown hg h.ne (fun h => h.1 rfl), h.ne, h.lowp, h.lowq, move_fit h.fitp hm, h.fitq⟩
theorem Ps.moveQ {w0 w w' : World} {p q : Nat} {lp lq l' : List Pc} {fk tk : List UInt8} {s n at' : Int} (h : Ps w0 w p lp q lq) (hr : Rt w' q (fun b => (b ≠ p ∧ b ≠ q) ∨ w.heap.size ≤ b) l') (hg : w.grownBy w' (some q)) (hm : MoveIs lq fk tk s n at' l') : Ps w0 w' p lp q l' :=
  ⟨h.env.grown hg h.lowq, h.rp.grown hg (fun e => h.ne e.symm) (fun h => h.2 rfl), hr.mono (fun b hb _ => by
    have h1 := h.rp.lt
    have h2 := h.rq.lt
    rcases hb with e | e
    · exact e
    · exact ⟨by omega, by omega⟩) (fun h => h.2 rfl), h.ne, h.lowp, h.lowq, h.fitp, move_fit h.fitq hm⟩
theorem Ps.new {w0 w w1 w2 : World} {p q : Nat} {l : List Pc} (h : Env w0 w) (hp : NewRt w w1 p l) (hq : NewRt w1 w2 q l) (hf : FitP l) : Ps w0 w2 p l q l := by
  have h1 := hp.2.1.lt
  have h2 := hq.1
  have h3 := hp.1
  have h4 := hp.2.2.size
  have h5 := h.1.size
  exact ⟨(h.next hp.2.2).next hq.2.2, (hp.2.1.mono (fun k hk hl => ⟨hk.2, by omega⟩) (fun h => h.1 rfl)).next hq.2.2, hq.2.1.mono (fun k hk _ => ⟨by have := hk.1; omega, hk.2⟩) (fun h => h.2 rfl), by omega, by omega, by omega, hf, hf⟩
theorem owner_defP {w : World} {p : Nat} {A : Nat → Prop} {l : List Pc} {k : List UInt8} {x : Pc} (h : Rt w p A l) (hf : FitP l) (hx : OwnIs l k x) : Calls Tryd.prog 19 #[.pointer (some ⟨p, 0, none⟩), .string ⟨k.toArray⟩] w fun e w' => e = .returned (pcV x) ∧ Below w.heap.size w w' := by
  refine (rqOwner_any w p A l k h hf.lin (by have := hf.few; omega)).mono ?_
  rintro e w' ⟨y, rfl, hy, hb⟩
  obtain rfl := own_one hx hy
  exact ⟨rfl, hb⟩
theorem owner_defQ {w : World} {p : Nat} {A : Nat → Prop} {l : List Pc} {k : List UInt8} {x : Pc} (h : Rt w p A l) (hf : FitP l) (hx : OwnIs l k x) : Calls Tryd.prog 20 #[.pointer (some ⟨p, 0, none⟩), .string ⟨k.toArray⟩] w fun e w' => e = .returned (pcV x) ∧ Below w.heap.size w w' := by
  refine (drOwner_any w p A l k h hf.lin (by have := hf.few; omega)).mono ?_
  rintro e w' ⟨y, rfl, hy, hb⟩
  obtain rfl := own_one hx hy
  exact ⟨rfl, hb⟩
/-- told, of what was answered and of what the document says -/
theorem told9_any {w0 w : World} {B : Nat} {er : Value} {n k : Int} (hV : Env w0 w) (h : (n = 0 ∧ er = .nilIface) ∨ (n ≠ 0 ∧ One w (B ≤ ·) er n routeS k)) : Calls Tryd.prog 12 #[er, .int .i64 n, .int .i64 k] w fun e w' => e = .returned (.bool true) ∧ Below w.heap.size w w' := by
  rcases h with ⟨rfl, rfl⟩ | ⟨hn, ho⟩
  · exact told9_none k w
  · exact told9_one er n k w w (hV.at ho) (by simpa using hn)
theorem One.nextW {w w' : World} {B : Nat} {er : Value} {n k : Int} (h : (n = 0 ∧ er = .nilIface) ∨ (n ≠ 0 ∧ One w (B ≤ ·) er n routeS k)) (hb : Below w.heap.size w w') : (n = 0 ∧ er = .nilIface) ∨ (n ≠ 0 ∧ One w' (B ≤ ·) er n routeS k) := by
  rcases h with h | ⟨h, ho⟩
  · exact Or.inl h
  · exact Or.inr ⟨h, ho.kept (Kept.of_all hb)⟩

set_option maxRecDepth 100000 in
set_option maxHeartbeats 16000000 in
theorem rplays_true (v vm vk : Value) (l : List Pc) (ms : List Mv) (keys : List (List UInt8)) (w : World) (hv : PcsIn w (· < w.heap.size) v l) (hn : l.length ≤ maxLen)
    (hm : MvsIn w (· < w.heap.size) vm ms) (_hmn : ms.length ≤ maxLen) (hks : KeysIn w (· < w.heap.size) vk keys) (_hkn : keys.length ≤ maxLen) (hg : ET w) (ht : PT w) :
    Calls Tryd.prog 3 #[v, vm, vk] w fun e w' => e = .returned (.bool true) ∧ Below w.heap.size w w' := by
  have HV0 : Hid (Env w w) := ⟨Below.refl _ _, hg, ht⟩
  have HH := hideIt (head09_true w hg ht)
  have HA := hideIt (And.intro hv hn)
  obtain ⟨a, cap, rfl⟩ := hv.form
  obtain ⟨am, cm, rfl⟩ := hm.form
  obtain ⟨ak, ck, rfl⟩ := hks.form
  have HMS := hideIt hm
  have HKS : Hid (KeysIn w (· < w.heap.size) (.slice ak keys.length ck) keys) := hideIt hks
  clear hm hks hg ht hv hn
  go_enter Tryd.func3, Tryd.ntmps3
  go_wp2_with fail
  refine HH.out.mono ?_
  rintro e w1 ⟨rfl, hb1⟩
  have HV1 := hideIt (HV0.out.next hb1)
  have HP1 := hideIt (HA.out.1.kept (kept_next (w0 := w) hb1))
  clear hb1 HH
  by_cases hc0 : (100 : Int) < (l.length : Int)
  · go_wp2
    go_ret
    exact ⟨rfl, HV1.out.1⟩
  by_cases hc1 : (60 : Int) < (ms.length : Int)
  · go_wp2
    go_ret
    exact ⟨rfl, HV1.out.1⟩
  by_cases hc2 : (60 : Int) < (keys.length : Int)
  · go_wp2
    go_ret
    exact ⟨rfl, HV1.out.1⟩
  have HC := hideIt (And.intro hc0 (And.intro hc1 hc2))
  go_wp2_with fail
  clear hc0 hc1 hc2
  refine (rqOf_any w1 _ _ l HP1.out HA.out.2).mono ?_
  rintro e w2 ⟨n, k, hof, hres⟩
  have hsz2 : Below w1.heap.size w1 w2 := by
    rcases hres with ⟨_, er, _, _, hb⟩ | ⟨_, p, _, hn⟩
    · exact hb
    · exact hn.2.2
  have HP2 := hideIt (HP1.out.kept (kept_next (w0 := w) hsz2))
  have HV2 := hideIt (HV1.out.next hsz2)
  clear hsz2
  rcases hres with ⟨hn, er, rfl, ho, hb2⟩ | ⟨rfl, p, rfl, hnr⟩
  · have HO := hideIt (show (n = 0 ∧ er = .nilIface) ∨ (n ≠ 0 ∧ One w2 (w1.heap.size ≤ ·) er n routeS k) from Or.inr ⟨hn, ho⟩)
    have HOF := hideIt hof
    have HNN := hideIt hn
    obtain ⟨ty, y, rfl⟩ := ho.iface
    clear hof hn ho hb2
    go_wp2_with fail
    refine (drOf_any w2 _ _ l HP2.out HA.out.2).mono ?_
    rintro e w3 ⟨n2, k2, hof2, ⟨hn2, rfl, hb3⟩ | ⟨rfl, q, rfl, hnq⟩⟩
    case inr => exact absurd (of_one HOF.out hof2).1.symm HNN.out
    obtain ⟨rfl, rfl⟩ := of_one HOF.out hof2
    have HV3 := hideIt (HV2.out.next hb3)
    have HO3 := hideIt (One.nextW HO.out hb3)
    clear hof2 hn2 hb3
    go_wp2_with fail
    refine (told9_any HV3.out HO3.out).mono ?_
    rintro e w4 ⟨rfl, hb4⟩
    have HV4 := hideIt (HV3.out.next hb4)
    clear hb4
    go_wp2
    go_ret
    exact ⟨rfl, HV4.out.1⟩
  have hf : FitP l := by
    rcases of_fit hof with ⟨_, h⟩ | ⟨h, _⟩
    · exact h
    · exact absurd rfl h
  have HOF := hideIt hof
  have HNR := hideIt (And.intro hnr hf)
  clear hof hnr hf
  go_wp2_with fail
  refine (drOf_any w2 _ _ l HP2.out HA.out.2).mono ?_
  rintro e w3 ⟨n2, k2, hof2, ⟨hn2, rfl, hb3⟩ | ⟨rfl, q, rfl, hnq⟩⟩
  case inl => exact absurd (of_one HOF.out hof2).1 hn2
  obtain ⟨_, rfl⟩ := of_one HOF.out hof2
  have HS3 := hideIt (Ps.new HV1.out HNR.out.1 hnq HNR.out.2)
  clear hof2 hnq HNR HV1 HV2 HP1 HP2 HV0
  go_wp2_with fail
  refine (told9_none _ w3).mono ?_
  rintro e w4 ⟨rfl, hb4⟩
  have HS4 := hideIt (HS3.out.next hb4)
  clear hb4 HS3
  go_wp2
  go_loopw [9, 11, 12, 13] (fun ev nv av i wr => ∃ (k : Nat) (lk : List Pc) (er : Value) (n at' : Int), k ≤ ms.length ∧ i = .int .i64 k ∧ ev = er ∧ nv = .int .i64 n ∧ av = .int .i64 at' ∧ Hid (Ps w wr p lk q lk)) (fun _ _ _ i _ => ms.length - (intOf i).toNat)
  case atStart => exact ⟨0, l, _, _, _, Nat.zero_le _, rfl, rfl, rfl, rfl, HS4⟩
  case round =>
    obtain ⟨k, lk, er0, n0, at0, hk, rfl, rfl, rfl, rfl, HS⟩ := hrel
    by_cases hlt : k < ms.length
    · obtain ⟨o, ho⟩ : ∃ o, ms[k]? = some o := ⟨ms[k], by simp [hlt]⟩
      obtain ⟨b, off, rfl, _, c0, c1, c2⟩ := MvsIn.at (HMS.out.kept (Kept.of_below HS.out.env.1 (fun _ h _ => h))) ho
      obtain ⟨W, hW, hwb, _, m0, m1, m2⟩ := room3 wr 37 (.string ⟨o.1.toArray⟩) (.string ⟨o.2.1.toArray⟩) (.int .i64 o.2.2)
      have HSW := hideIt (HS.out.next hwb)
      have HMW : Hid (R3 W wr.heap.size (.string ⟨o.1.toArray⟩) (.string ⟨o.2.1.toArray⟩) (.int .i64 o.2.2)) := hideIt ⟨m0, m1, m2⟩
      have HNM : Hid (wr.heap.size ≠ p ∧ wr.heap.size ≠ q) := hideIt ⟨fun e => by have := HS.out.rp.lt; omega, fun e => by have := HS.out.rq.lt; omega⟩
      have hfew : lk.length ≤ 100000 := by have := HS.out.fitp.few; omega
      have HFEW := hideIt hfew
      rw [hW] at m0 m1 m2
      clear ho hwb hfew
      go_wp2_with fail
      rw [← hW]
      clear hW m0 m1 m2
      refine (rqOne_any W p _ lk o.1 o.2.1 HSW.out.rp HSW.out.fitp.lin HFEW.out).mono ?_
      rintro e w5 ⟨x, is, rfl, hone, hb5⟩
      have HONE := hideIt hone
      unfold pcV
      obtain ⟨W5, hW, hwb, hr5⟩ := room_pc w5 x
      have HS5 := hideIt ((HSW.out.next hb5).next hwb)
      have HM5 := hideIt ((HMW.out.next hb5).next hwb)
      have HX5 := hideIt hr5
      have m0 := HM5.out.1
      have m1 := HM5.out.2.1
      rw [hW] at m0 m1
      clear hone hb5 hwb hr5 HSW HMW
      go_wp2_with fail
      rw [← hW]
      clear hW m0 m1
      refine (drOne_any W5 q _ lk o.1 o.2.1 HS5.out.rq HS5.out.fitq.lin HFEW.out).mono ?_
      rintro e w6 ⟨y, it, rfl, hone2, hb6⟩
      obtain ⟨rfl, rfl⟩ := one_one HONE.out hone2
      unfold pcV
      obtain ⟨W6, hW, hwb, hr6⟩ := room_pc w6 y
      have HS6 := hideIt ((HS5.out.next hb6).next hwb)
      have HM6 := hideIt ((HM5.out.next hb6).next hwb)
      have HX6 := hideIt ((HX5.out.next hb6).next hwb)
      have HY6 := hideIt hr6
      clear hone2 hb6 hwb hr6 HS5 HM5 HX5 HONE
      have hne := fun w => neq_pc y y w
      rw [decide_eq_true (rfl : y = y)] at hne
      have x0 := HX6.out.1
      have x1 := HX6.out.2.1
      have x2 := HX6.out.2.2
      have y0 := HY6.out.1
      have y1 := HY6.out.2.1
      have y2 := HY6.out.2.2
      have m0 := HM6.out.1
      have m1 := HM6.out.2.1
      have m2 := HM6.out.2.2
      rw [hW] at x0 x1 x2 y0 y1 y2 m0 m1 m2
      go_wp2_with fail
      rw [← hW]
      clear hW x0 x1 x2 y0 y1 y2 m0 m1 m2 hne HX6 HY6
      refine (rqMove_any W6 p _ lk o.1 o.2.1 o.2.2 HS6.out.rp HS6.out.fitp).mono ?_
      rintro e w7 ⟨n, k7, l', er, rfl, hmv, her, hr, hg⟩
      have HS7 := hideIt (HS6.out.moveP hr hg hmv)
      have HM7 := hideIt (HM6.out.grown hg HNM.out.1)
      have HO7 := hideIt her
      have HMV := hideIt hmv
      have HQL := hideIt HS6.out.rq.lt
      have m0 := HM7.out.1
      have m1 := HM7.out.2.1
      have m2 := HM7.out.2.2
      clear hmv her hr hg HS6 HM6
      go_wp2_with fail
      refine (drMove_any w7 q _ lk o.1 o.2.1 o.2.2 HS7.out.rq HS7.out.fitq).mono ?_
      rintro e w8 ⟨n8, k8, l8, rfl, hmv, hr, hg⟩
      obtain ⟨rfl, rfl, rfl⟩ := move_one HMV.out hmv
      have HS8 := hideIt (HS7.out.moveQ hr hg hmv)
      have HO8 : Hid ((n8 = 0 ∧ er = .nilIface) ∨ (n8 ≠ 0 ∧ One w8 (W6.heap.size ≤ ·) er n8 routeS k8)) := hideIt (by
        rcases HO7.out with h | ⟨h, ho⟩
        · exact Or.inl h
        · exact Or.inr ⟨h, ho.kept (Kept.of_grown hg (fun h => by have := HQL.out; omega))⟩)
      have hfew8 : l8.length ≤ 100000 := by have := HS8.out.fitp.few; omega
      have HFW := hideIt hfew8
      clear hmv hr hg HS7 HM7 HO7 HMV m0 m1 m2 hfew8
      obtain ⟨vq, cq, _, hvq, _⟩ := HS8.out.rq
      have HVQ := hideIt hvq.1
      obtain ⟨aq, cpq, rfl⟩ := hvq.1.form
      clear hvq
      have bd : Below w8.heap.size w8 w8.drew := (Below.refl _ _).drew
      have HBD := hideIt bd
      clear bd
      go_wp2_with fail
      go_region_held3 (fun w' => w'.cell? ⟨q, 0, none⟩ = some (.slice aq l8.length cpq)) (first | exact cq | exact HKA.out | exact HKB.out | exact HKC.out | go_keep) (first
        | (go_at_call 12; refine (told9_any (HS8.out.env.next HBD.out) (One.nextW HO8.out HBD.out)).mono ?_; rintro e wA ⟨rfl, hbA⟩; have HBA := hideIt (HBD.out.trans (hbA.mono HBD.out.size)); have HKA := hideIt ((HBA.out.cell (lt_of_cell cq)).trans cq); clear hbA)
        | (go_at_call 18; refine (rqPieces_any wA p _ l8 (HS8.out.next HBA.out).rp HFW.out).mono ?_; rintro e wB ⟨z, rfl, hz, hbB⟩; have HBB := hideIt (HBA.out.trans (hbB.mono HBA.out.size)); have HKB := hideIt ((HBB.out.cell (lt_of_cell cq)).trans cq); have HZB := hideIt (own_in hz); obtain ⟨az, cz, rfl⟩ := own_form hz; clear hbB hz)
        | (go_at_call 17; refine (Same09_any _ _ _ _ l8 l8 wB HZB.out (RowIn.kept HVQ.out (Kept.of_all HBB.out)) (by have := HFW.out; unfold maxLen; omega)).mono ?_; rintro e wC ⟨rfl, hbC⟩; rw [decide_eq_true (rfl : l8 = l8)]; have HBC := hideIt (HBB.out.trans (hbC.mono HBB.out.size)); have HKC := hideIt ((HBC.out.cell (lt_of_cell cq)).trans cq); clear hbC))
      all_goals
        have HSC := hideIt (HS8.out.next HBC.out)
        go_wp2
        exact ⟨⟨k + 1, l8, _, _, _, by omega, by go_num, rfl, rfl, rfl, HSC⟩, by simp [intOf]; omega⟩
    · go_wp2
      go_loopw [19] (fun i wr => ∃ k3 : Nat, k3 ≤ keys.length ∧ i = .int .i64 k3 ∧ Hid (Ps w wr p lk q lk)) (fun i _ => keys.length - (intOf i).toNat)
      case atStart => exact ⟨0, Nat.zero_le _, rfl, HS⟩
      case round =>
        obtain ⟨k3, hk3, rfl, HS⟩ := hrel
        by_cases hlt3 : k3 < keys.length
        · obtain ⟨key, hkey⟩ : ∃ key, keys[k3]? = some key := ⟨keys[k3], by simp [hlt3]⟩
          obtain ⟨b, off, rfl, _, c0⟩ := KeysIn.at (RowIn.kept HKS.out (Kept.of_below HS.out.env.1 (fun _ h _ => h))) hkey
          obtain ⟨x, hx⟩ := own_ex HS.out.fitp.lin key
          have hne := fun w => neq_pc x x w
          rw [decide_eq_true (rfl : x = x)] at hne
          have HX := hideIt hx
          clear hkey hx
          go_wp2_with fail
          refine wp_region_quiet_grow (by kernel_rfl) (by kernel_rfl) ?_
          intro ι _ f hf hn
          have s3 := fun i => ((hf i).cell (lt_of_cell c0)).trans c0
          have HSF := hideIt hf
          have HNN := hideIt hn
          have HA1 := hideIt (fun i => owner_defP (HS.out.next (hf i)).rp HS.out.fitp HX.out)
          have HA2 := hideIt (fun i => owner_defQ (HS.out.next (hf i)).rq HS.out.fitq HX.out)
          unfold pcV at HA1 HA2
          clear hf hn c0
          repeat (go_big_quiet_step (first | (go_at_call 19; exact Calls.grow HNN.out (HA1.out _)) | (go_at_call 20; exact Calls.grow HNN.out (HA2.out _))))
          refine wpQuiet_nil ?_
          rintro w7 ⟨i, rfl⟩
          have HS7 := hideIt (HS.out.next (HSF.out i))
          clear HSF HA1 HA2 HNN s3
          generalize f i = w7 at HS7 ⊢
          go_wp2
          exact ⟨⟨k3 + 1, by omega, by go_num, HS7⟩, by simp [intOf]; omega⟩
        · go_wp2
          go_ret
          exact ⟨rfl, HS.out.env.1⟩
end Go.Proofs.YtafhmbgnldmedaaDoor
