import Derived.Test.YthnccpbgccmapabDoorBook
namespace Go.Proofs.YthnccpbgccmapabDoor
open Go.RowKit
set_option linter.unusedVariables false
attribute [local go_sem ↓] Go.wp_at_zero Go.wp_at_succ

def toldAt (w : World) (D : Nat) : Nat := (intOf ((w.cell? ⟨D, 1, none⟩).getD (.int .i64 0))).toNat

theorem Nx.toldAt {P D S : Nat} {fed : List UInt8} {told : Nat} {es : List En} {tg : Bool} {cs : List Comp} {fv ov wv : Value} {w : World} (h : Nx P D S fed told es tg cs fv ov wv w) : toldAt w D = told ∧ w.cell? ⟨D, 1, none⟩ = some (.int .i64 (told : Int)) := by
  have h1 : w.cell? ⟨D, 1, none⟩ = some (.int .i64 (told : Int)) := by rw [cell_at h.fed.2]; rfl
  refine ⟨?_, h1⟩
  unfold YthnccpbgccmapabDoor.toldAt
  rw [h1]
  simp [intOf]

set_option maxHeartbeats 6400000 in
set_option maxRecDepth 1000000 in
theorem last_any {P D S : Nat} {fed : List UInt8} {told : Nat} {es : List En} {tg : Bool} {cs : List Comp} {fv ov wv : Value} {w : World} (h : Nx P D S fed told es tg cs fv ov wv w) (hs : es.length ≤ 6291456) :
    Calls Tryd.prog 11 #[.pointer (some ⟨P, 0, none⟩), .pointer (some ⟨D, 0, none⟩), .pointer (some ⟨S, 0, none⟩)] w fun e w' => e = .returned (.bool true) ∧ ∃ told' es' ov' wv', es'.length ≤ es.length + 1048576 ∧ Nx P D S fed told' es' tg cs fv ov' wv' w' := by
  obtain ⟨hfed, hbk⟩ := h.fed
  obtain ⟨fa, fc, hfe⟩ := owns_form hfed
  subst hfe
  have c0 : w.cell? ⟨D, 0, none⟩ = some (.slice fa fed.length fc) := by rw [cell_at hbk]; rfl
  have hlen := h.len
  have hle := h.le
  have hfl := fin_rest_le fed
  obtain ⟨v, hv, hA⟩ := h.str
  have HV := hid hv
  have HF := hid (Found_c (Reads.of_owns hfed) hlen hA)
  have HSH := hid h.sh
  clear h hfed hbk hv hA
  go_enter Tryd.func11, Tryd.ntmps11
  go_wp2_with fail
  refine HF.out.mono ?_
  rintro e w1 ⟨v7, us, rfl, hul, hA1⟩
  have N1 := hid (show Nx P D S fed told es tg cs (.slice fa fed.length fc) ov wv w1 from ⟨Str.drops (ys := slC v7 us :: rowsP us (fin fed).1) ⟨v, HV.out, hA1.perm (front2 (Z := slC v7 us :: rowsP us (fin fed).1))⟩, hle, hlen, HSH.out⟩)
  obtain ⟨va, vc, hve⟩ := owns_form (hA1.1.2.1 : w1.ownsRow 0 26 1 v7 us.length us)
  subst hve
  have HUL := hid hul
  have hub : us.length ≤ 1048576 := by omega
  clear hA1 HF HV c0 hul
  go_wp2
  go_loopw [34] (fun _ wr => ∃ (t' : Nat) (es' : List En) (ov' wv' : Value), es'.length + (us.length - t') ≤ es.length + us.length ∧ Hid (Nx P D S fed t' es' tg cs (.slice fa fed.length fc) ov' wv' wr)) (fun _ wr => us.length - toldAt wr D)
  case atStart => exact ⟨told, es, ov, wv, by omega, N1⟩
  case round =>
    obtain ⟨t', es', ov', wv', hel, NR⟩ := hrel
    clear N1
    obtain ⟨hta, d1⟩ := NR.out.toldAt
    have htl := NR.out.le
    by_cases hlt : t' < us.length
    · have HN := hid (next_any NR.out (by omega))
      have HTA := hid hta
      have htb : t' ≤ 1048576 := by omega
      clear hta
      go_wp2_with fail
      refine HN.out.mono ?_
      rintro e w2 ⟨rfl, t2, es2, ov2, wv2, h1, h2, h3, hN2⟩
      have ht2 : t2 = t' + 1 := h1 (by rw [← HUL.out]; exact hlt)
      subst ht2
      have N2 := hid hN2
      have hm2 := hN2.toldAt.1
      have HM2 := hid hm2
      clear h1 h2 hN2 HN hm2
      go_wp2
      go_roundw
      case rel => exact ⟨t' + 1, es2, ov2, wv2, by omega, N2⟩
      case measure => rw [HM2.out, HTA.out]; omega
    · have hte : t' = (fin fed).1.length := by rw [← HUL.out]; have := HUL.out; omega
      have S1 := hid (show Str P (fin fed).2.2 [] (fin fed).2.1 (bsL D S (.slice fa fed.length fc) ov' wv' fed t' es' ++ cs) wr from by have := NR.out.str; rw [List.drop_eq_nil_of_le (by omega)] at this; exact this)
      have htb : t' ≤ 1048576 := by omega
      clear hta hte
      generalize (fin fed).2.1 = LL at *
      generalize hXX : (fin fed).2.2 = XX at *
      go_wp2_with fail
      refine S1.out.empty.mono ?_
      rintro e w2 ⟨rfl, q2, hq2⟩
      have S2 := hid (show Str P XX [] LL (bsL D S (.slice fa fed.length fc) ov' wv' fed t' es' ++ cs) w2 from hq2 ▸ S1.out.drewN q2)
      have Q2 := hid hq2
      clear hq2 S1
      go_wp2_with fail
      refine S2.out.lost.mono ?_
      rintro e w3 ⟨rfl, q3, hq3⟩
      have S3 := hid (show Str P XX [] LL (bsL D S (.slice fa fed.length fc) ov' wv' fed t' es' ++ cs) w3 from hq3 ▸ S2.out.drewN q3)
      have Q3 := hid hq3
      clear hq3 S2
      go_wp2_with fail
      refine S3.out.held.mono ?_
      rintro e w4 ⟨rfl, q4, hq4⟩
      have N4 := hid (show Nx P D S fed t' es' tg cs (.slice fa fed.length fc) ov' wv' w4 from ⟨by rw [hq4, Q3.out, Q2.out]; exact ((NR.out.str.drewN q2).drewN q3).drewN q4, NR.out.le, NR.out.len, NR.out.sh⟩)
      clear hq4 S3 Q2 Q3
      go_wp2
      go_ret
      exact ⟨rfl, t', es', ov', wv', by omega, N4.out⟩
end Go.Proofs.YthnccpbgccmapabDoor
