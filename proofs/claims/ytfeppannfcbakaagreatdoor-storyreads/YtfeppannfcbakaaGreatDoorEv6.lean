import Derived.Test.YtfeppannfcbakaaGreatDoorJ7
namespace Go.Proofs.YtfeppannfcbakaaGreatDoor
open Go.RowKit
set_option linter.unusedVariables false
set_option maxRecDepth 1000000
set_option maxHeartbeats 3200000
def ersL (er : Th → Int) : List Th → Int
 | [] => 0
 | t :: r => if er t ≠ 0 then er t else ersL er r
def wdsL (wd : Th → Ws) (er : Th → Int) (l : List Th) : Ws := if ersL er l ≠ 0 then [] else l.flatMap wd
theorem ersL_at {er : Th → Int} {l : List Th} {j : Nat} {t : Th} (h : l[j]? = some t) : ersL er (l.drop j) = if er t ≠ 0 then er t else ersL er (l.drop (j + 1)) := by
 have hj := (List.getElem?_eq_some_iff.1 h)
 rw [List.drop_eq_getElem_cons hj.1, hj.2]
 rfl
theorem fm_snoc {wd : Th → Ws} {l : List Th} {j : Nat} {t : Th} (h : l[j]? = some t) : (l.take (j + 1)).flatMap wd = (l.take j).flatMap wd ++ wd t := by
 rw [take_at h, List.flatMap_append]; simp
theorem fm_len {wd : Th → Ws} {l : List Th} (h : ∀ t ∈ l, (wd t).length ≤ 100) : (l.flatMap wd).length ≤ 100 * l.length := by
 induction l with
 | nil => simp
 | cons t r ih =>
   have h1 := h t (by simp)
   have h2 := ih (fun x hx => h x (by simp [hx]))
   simp only [List.flatMap_cons, List.length_append, List.length_cons]
   omega
theorem ersL_zero {er : Th → Int} {l : List Th} (h : ersL er l = 0) : ∀ t ∈ l, er t = 0 := by
 induction l with
 | nil => simp
 | cons t r ih =>
   rw [ersL] at h
   split at h
   · rename_i h1; exact absurd h h1
   · rename_i h1
     intro x hx
     rcases List.mem_cons.1 hx with rfl | hx
     · simpa using h1
     · exact ih h x hx
theorem thingsWords_gen {P b : Nat} {l : List Th} {wd : Th → Ws} {er : Th → Int} {cs : List Comp} {w : World} (hn : l.length ≤ 100) (hw : ∀ t ∈ l, (wd t).length ≤ 100)
   (HT : ∀ t ∈ l, ∀ (ds : List Comp) (W : World), (∀ V, All ds V → All cs V) → (∀ c ∈ cs, c ∈ ds) → All ds W → Calls Tryz.prog 55 #[thV P t] W (WRPost (wd t) (er t) ds))
   (hb : blkC b (l.map (thV P)) 20 ∈ cs) (A : All cs w) :
   Calls Tryz.prog 27 #[.slice (some ⟨b, 0, none⟩) l.length l.length] w (WRPost (wdsL wd er l) (ersL er l) cs) := by
 have EL : Hid (∀ j, j < l.length → ∃ t, l[j]? = some t ∧ (l.map (thV P))[j]? = some (thV P t) ∧ t ∈ l) := hid (fun j hj => ⟨l[j], List.getElem?_eq_getElem hj, by simp [List.getElem?_eq_getElem hj], List.getElem_mem hj⟩)
 have A0 : Hid (All (ownC 9 (.slice none 0 0) (txW ((l.take 0).flatMap wd)) :: cs) w) := hid (All.addNil A)
 have E0 : Hid (ersL er (l.drop 0) = ersL er l) := hid rfl
 have FL : Hid (∀ j, ((l.take j).flatMap wd).length ≤ 10000) := hid (fun j => by
   have := fm_len (l := l.take j) (wd := wd) (fun t ht => hw t (List.mem_of_mem_take ht))
   have h2 : (l.take j).length ≤ l.length := by rw [List.length_take]; omega
   omega)
 have FIN : Hid (ersL er (l.drop l.length) = 0 ∧ l.take l.length = l) := hid (by rw [List.drop_length, List.take_length]; exact ⟨rfl, rfl⟩)
 have HB := hid hb
 have HTT := hid HT
 have HW := hid hw
 unfold WRPost
 clear A hb HT hw
 generalize hLV : l.map (thV P) = LV at *
 clear hLV
 generalize hnn : l.length = n at *
 clear hnn
 go_enter Tryz.func27, Tryz.ntmps27
 go_wp2
 go_loopw [4, 11] (fun av iv wr => ∃ j : Nat, j ≤ n ∧ iv = .int .i64 (j : Int) ∧ Hid (ersL er (l.drop j) = ersL er l) ∧ Hid (All (ownC 9 av (txW ((l.take j).flatMap wd)) :: cs) wr)) (fun _ iv _ => n - (intOf iv).toNat)
 case atStart => exact ⟨0, Nat.zero_le _, rfl, E0, A0⟩
 case round =>
   obtain ⟨j, hj, rfl, hE, HA⟩ := hrel
   clear A0 E0
   by_cases hlt : j < n
   · have hlt' : (j : Int) < (n : Int) := by omega
     obtain ⟨t, ht, hv, hm⟩ := EL.out j hlt
     have hcb : wr.cell? ⟨b, j, none⟩ = some (thV P t) := cell_in HA.out.tail HB.out hv
     have CT := hid (HTT.out t hm (ownC 9 u4 (txW ((l.take j).flatMap wd)) :: cs) wr (fun V hV => hV.tail) (fun c hc => List.mem_cons_of_mem _ hc) HA.out)
     have EA : Hid (ersL er l = if er t ≠ 0 then er t else ersL er (l.drop (j + 1))) := hid (by rw [← hE.out, ersL_at ht])
     have SN := hid (fm_snoc (wd := wd) ht)
     have WL := hid (HW.out t hm)
     have FJ := hid (FL.out j)
     clear hv hm ht hE HA
     generalize (l.take j).flatMap wd = WJ at *
     generalize thV P t = TV at *
     by_cases hx : er t = 0
     · rw [hx] at CT
       have EA2 : Hid (ersL er (l.drop (j + 1)) = ersL er l) := hid (by rw [EA.out, if_neg (by simpa using hx)])
       clear EA hx
       go_upto_region 8 with (go_at_call 55; refine CT.out.mono ?_; rintro e w2 ⟨v2, rfl, A2⟩; have K2 := hid A2.swap; have R2 := hid (rt_own A2); clear A2)
       obtain ⟨ao6, c6, w6, hr6, A6⟩ := appR K2.out R2.out (by have := FJ.out; have := WL.out; omega)
       rw [← SN.out] at A6
       have R6 := hid hr6
       have B6 := hid A6.swap.tail
       clear hr6 A6 K2 R2
       go_wp2_with (at_builtin; refine wpList_append_run rfl _ _ 27 rfl _ _ _ _ rfl rfl R6.out ?_)
       go_roundw
       case rel => exact ⟨j + 1, by omega, by go_num, EA2, B6⟩
       case measure => simp [intOf]; omega
     · have hx' : (er t == 0) = false := by simpa using hx
       have EX : Hid (ersL er l = er t ∧ wdsL wd er l = []) := hid (by
         have e1 : ersL er l = er t := by rw [EA.out, if_pos hx]
         exact ⟨e1, by unfold wdsL; rw [if_pos (by rw [e1]; exact hx)]⟩)
       clear EA hx
       generalize er t = X at *
       go_wp2_with (go_at_call 55; refine CT.out.mono ?_; rintro e w2 ⟨v2, rfl, A2⟩; have K2 := hid A2.tail.tail; clear A2)
       go_ret2
       exact ⟨_, by rw [EX.out.1]; rfl, by rw [EX.out.2]; exact All.addNil K2.out⟩
   · have hlt' : ¬ (j : Int) < (n : Int) := by omega
     have ej : j = n := by omega
     have EE : Hid (ersL er l = 0) := hid (by rw [← hE.out, ej]; exact FIN.out.1)
     have AA : Hid (All (ownC 9 u4 (txW (wdsL wd er l)) :: cs) wr) := hid (by
       have := HA.out
       rw [ej, FIN.out.2] at this
       unfold wdsL
       rw [if_neg (by simpa using EE.out)]
       exact this)
     clear ej
     go_wp2
     go_ret2
     exact ⟨_, by rw [EE.out]; rfl, AA.out⟩
theorem TpW1.mono {C : List Value} {items : Ws} {data : List UInt8} {cs ds : List Comp} {t : Th} (h : TpW1 C items data cs t) (hd : ∀ V, All ds V → All cs V) : TpW1 C items data ds t := by
 cases t with
 | dat o =>
   obtain ⟨h1, a, n, c, h2, h3⟩ := h
   exact ⟨h1, a, n, c, h2, fun W hW => h3 W (hd W hW)⟩
 | res o =>
   obtain ⟨h1, c, n, a, k, p, h2, h3, h4, h5⟩ := h
   exact ⟨h1, c, n, a, k, p, h2, h3, h4, fun W hW => h5 W (hd W hW)⟩
 | _ => exact h
def wdT (C : List Value) (items : Ws) (data : List UInt8) : Th → Ws
 | .look o => (lookL o).flatMap (wd1 C items data)
 | .sht o => (shtL o).flatMap (wd1 C items data)
 | t => wd1 C items data t
def TpWT (C : List Value) (items : Ws) (data : List UInt8) (cs : List Comp) : Th → Prop
 | .look o => ∀ x ∈ lookL o, TpW1 C items data cs x
 | .sht o => ∀ x ∈ shtL o, TpW1 C items data cs x
 | t => TpW1 C items data cs t
theorem TpWT.mono {C : List Value} {items : Ws} {data : List UInt8} {cs ds : List Comp} {t : Th} (h : TpWT C items data cs t) (hd : ∀ V, All ds V → All cs V) : TpWT C items data ds t := by
 cases t with
 | look o => exact fun x hx => (h x hx).mono hd
 | sht o => exact fun x hx => (h x hx).mono hd
 | int o => exact TpW1.mono (items := items) (data := data) (t := .int o) h hd
 | cod o => exact TpW1.mono (items := items) (data := data) (t := .cod o) h hd
 | fre o => exact TpW1.mono (items := items) (data := data) (t := .fre o) h hd
 | sta o => exact TpW1.mono (items := items) (data := data) (t := .sta o) h hd
 | dat o => exact TpW1.mono (items := items) (data := data) (t := .dat o) h hd
 | op o => exact TpW1.mono (items := items) (data := data) (t := .op o) h hd
 | res o => exact TpW1.mono (items := items) (data := data) (t := .res o) h hd
theorem ers_look (C : List Value) (items : Ws) (o : Nat) : ersL (er1 C items) (lookL o) = 0 := by simp [ersL, lookL, er1]
theorem ers_sht (C : List Value) (items : Ws) (o : Nat) : ersL (er1 C items) (shtL o) = 0 := by simp [ersL, shtL, er1]
theorem len_look (C : List Value) (items : Ws) (data : List UInt8) (o : Nat) : ∀ t ∈ lookL o, (wd1 C items data t).length ≤ 100 := by simp [lookL, wd1]
theorem len_sht (C : List Value) (items : Ws) (data : List UInt8) (o : Nat) : ∀ t ∈ shtL o, (wd1 C items data t).length ≤ 100 := by simp [shtL, wd1]
theorem thingWords_any {P : Nat} {t : Th} {C : List Value} {items : Ws} {data : List UInt8} {cs : List Comp} {w : World} (hE : ∀ W, All cs W → En W) (hP : blkC P C 36 ∈ cs) (hT : TpWT C items data cs t) (A : All cs w) :
   Calls Tryz.prog 55 #[thV P t] w (WRPost (wdT C items data t) (er1 C items t) cs) := by
 cases t with
 | look o =>
   have LK := hid (lookT (P := P) (o := o) A)
   have CT : Hid (∀ b2 W, All (blkC b2 ((lookL o).map (thV P)) 20 :: cs) W → Calls Tryz.prog 27 #[.slice (some ⟨b2, 0, none⟩) (lookL o).length (lookL o).length] W (WRPost (wdT C items data (.look o)) (er1 C items (.look o)) (blkC b2 ((lookL o).map (thV P)) 20 :: cs))) := hid (fun b2 W hW => by
     have := thingsWords_gen (P := P) (b := b2) (l := lookL o) (wd := wd1 C items data) (er := er1 C items) (by simp [lookL]) (len_look C items data o) (fun t ht ds W hd hm hA => thingWords_flat (fun V hV => hE V (hd V hV).tail) (hm _ (List.mem_cons_of_mem _ hP)) (flat_look o t ht) ((hT t ht).mono (fun V hV => (hd V hV).tail)) hA) (List.mem_cons_self) hW
     unfold wdsL at this
     rw [ers_look] at this
     exact this)
   simp only [thV]
   clear A hE hP hT
   generalize hW2 : wdT C items data (.look o) = WW at *
   clear hW2
   have ta0 : ∀ W : World, (Instr.typeAssert (.iface 102 (.pointer (some ⟨P, o, none⟩))) 20 97 true).run Tryz.prog W = .ok (.tuple #[.pointer none, .bool false]) W := fun W => by kernel_rfl
   have ta1 : ∀ W : World, (Instr.typeAssert (.iface 102 (.pointer (some ⟨P, o, none⟩))) 20 98 true).run Tryz.prog W = .ok (.tuple #[.pointer none, .bool false]) W := fun W => by kernel_rfl
   have ta2 : ∀ W : World, (Instr.typeAssert (.iface 102 (.pointer (some ⟨P, o, none⟩))) 20 101 true).run Tryz.prog W = .ok (.tuple #[.pointer none, .bool false]) W := fun W => by kernel_rfl
   have ta3 : ∀ W : World, (Instr.typeAssert (.iface 102 (.pointer (some ⟨P, o, none⟩))) 20 140 true).run Tryz.prog W = .ok (.tuple #[.agg #[.pointer none], .bool false]) W := fun W => by kernel_rfl
   have ta4 : ∀ W : World, (Instr.typeAssert (.iface 102 (.pointer (some ⟨P, o, none⟩))) 20 141 true).run Tryz.prog W = .ok (.tuple #[.pointer none, .bool false]) W := fun W => by kernel_rfl
   have ta5 : ∀ W : World, (Instr.typeAssert (.iface 102 (.pointer (some ⟨P, o, none⟩))) 20 99 true).run Tryz.prog W = .ok (.tuple #[.pointer none, .bool false]) W := fun W => by kernel_rfl
   have ta6 : ∀ W : World, (Instr.typeAssert (.iface 102 (.pointer (some ⟨P, o, none⟩))) 20 100 true).run Tryz.prog W = .ok (.tuple #[.pointer none, .bool false]) W := fun W => by kernel_rfl
   have ta7 : ∀ W : World, (Instr.typeAssert (.iface 102 (.pointer (some ⟨P, o, none⟩))) 20 102 true).run Tryz.prog W = .ok (.tuple #[.pointer (some ⟨P, o, none⟩), .bool true]) W := fun W => by kernel_rfl
   go_enter Tryz.func55, Tryz.ntmps55
   go_wp2_with (first | (go_at_call 84; refine LK.out.mono ?_; rintro e w2 ⟨b2, rfl, A2⟩; have K1 := hid A2; clear A2) | (go_at_call 27; refine (CT.out _ _ K1.out).mono ?_; rintro e w3 ⟨v3, rfl, A3⟩; have K3 := hid A3.swap.tail; clear A3))
   go_ret2
   exact ⟨_, rfl, K3.out⟩
 | sht o =>
   have LK := hid (sheetT (P := P) (o := o) A)
   have CT : Hid (∀ b2 W, All (blkC b2 ((shtL o).map (thV P)) 20 :: cs) W → Calls Tryz.prog 27 #[.slice (some ⟨b2, 0, none⟩) (shtL o).length (shtL o).length] W (WRPost (wdT C items data (.sht o)) (er1 C items (.sht o)) (blkC b2 ((shtL o).map (thV P)) 20 :: cs))) := hid (fun b2 W hW => by
     have := thingsWords_gen (P := P) (b := b2) (l := shtL o) (wd := wd1 C items data) (er := er1 C items) (by simp [shtL]) (len_sht C items data o) (fun t ht ds W hd hm hA => thingWords_flat (fun V hV => hE V (hd V hV).tail) (hm _ (List.mem_cons_of_mem _ hP)) (flat_sht o t ht) ((hT t ht).mono (fun V hV => (hd V hV).tail)) hA) (List.mem_cons_self) hW
     unfold wdsL at this
     rw [ers_sht] at this
     exact this)
   simp only [thV]
   clear A hE hP hT
   generalize hW2 : wdT C items data (.sht o) = WW at *
   clear hW2
   have ta0 : ∀ W : World, (Instr.typeAssert (.iface 103 (.pointer (some ⟨P, o, none⟩))) 20 97 true).run Tryz.prog W = .ok (.tuple #[.pointer none, .bool false]) W := fun W => by kernel_rfl
   have ta1 : ∀ W : World, (Instr.typeAssert (.iface 103 (.pointer (some ⟨P, o, none⟩))) 20 98 true).run Tryz.prog W = .ok (.tuple #[.pointer none, .bool false]) W := fun W => by kernel_rfl
   have ta2 : ∀ W : World, (Instr.typeAssert (.iface 103 (.pointer (some ⟨P, o, none⟩))) 20 101 true).run Tryz.prog W = .ok (.tuple #[.pointer none, .bool false]) W := fun W => by kernel_rfl
   have ta3 : ∀ W : World, (Instr.typeAssert (.iface 103 (.pointer (some ⟨P, o, none⟩))) 20 140 true).run Tryz.prog W = .ok (.tuple #[.agg #[.pointer none], .bool false]) W := fun W => by kernel_rfl
   have ta4 : ∀ W : World, (Instr.typeAssert (.iface 103 (.pointer (some ⟨P, o, none⟩))) 20 141 true).run Tryz.prog W = .ok (.tuple #[.pointer none, .bool false]) W := fun W => by kernel_rfl
   have ta5 : ∀ W : World, (Instr.typeAssert (.iface 103 (.pointer (some ⟨P, o, none⟩))) 20 99 true).run Tryz.prog W = .ok (.tuple #[.pointer none, .bool false]) W := fun W => by kernel_rfl
   have ta6 : ∀ W : World, (Instr.typeAssert (.iface 103 (.pointer (some ⟨P, o, none⟩))) 20 100 true).run Tryz.prog W = .ok (.tuple #[.pointer none, .bool false]) W := fun W => by kernel_rfl
   have ta7 : ∀ W : World, (Instr.typeAssert (.iface 103 (.pointer (some ⟨P, o, none⟩))) 20 102 true).run Tryz.prog W = .ok (.tuple #[.pointer none, .bool false]) W := fun W => by kernel_rfl
   have ta8 : ∀ W : World, (Instr.typeAssert (.iface 103 (.pointer (some ⟨P, o, none⟩))) 20 103 true).run Tryz.prog W = .ok (.tuple #[.pointer (some ⟨P, o, none⟩), .bool true]) W := fun W => by kernel_rfl
   go_enter Tryz.func55, Tryz.ntmps55
   go_wp2_with (first | (go_at_call 85; refine LK.out.mono ?_; rintro e w2 ⟨b2, rfl, A2⟩; have K1 := hid A2; clear A2) | (go_at_call 27; refine (CT.out _ _ K1.out).mono ?_; rintro e w3 ⟨v3, rfl, A3⟩; have K3 := hid A3.swap.tail; clear A3))
   go_ret2
   exact ⟨_, rfl, K3.out⟩
 | int o => exact thingWords_flat (items := items) (data := data) hE hP rfl hT A
 | cod o => exact thingWords_flat (items := items) (data := data) hE hP rfl hT A
 | fre o => exact thingWords_flat (items := items) (data := data) hE hP rfl hT A
 | sta o => exact thingWords_flat (items := items) (data := data) hE hP rfl hT A
 | dat o => exact thingWords_flat (items := items) (data := data) hE hP rfl hT A
 | op o => exact thingWords_flat (items := items) (data := data) hE hP rfl hT A
 | res o => exact thingWords_flat (items := items) (data := data) hE hP rfl hT A
theorem thingsWords_any {P b : Nat} {l : List Th} {C : List Value} {items : Ws} {data : List UInt8} {cs : List Comp} {w : World} (hE : ∀ W, All cs W → En W) (hP : blkC P C 36 ∈ cs) (hT : ∀ t ∈ l, TpWT C items data cs t) (hn : l.length ≤ 100) (hw : ∀ t ∈ l, (wdT C items data t).length ≤ 100)
   (hb : blkC b (l.map (thV P)) 20 ∈ cs) (A : All cs w) :
   Calls Tryz.prog 27 #[.slice (some ⟨b, 0, none⟩) l.length l.length] w (WRPost (wdsL (wdT C items data) (er1 C items) l) (ersL (er1 C items) l) cs) :=
 thingsWords_gen hn hw (fun t ht ds W hd hm hA => thingWords_any (fun V hV => hE V (hd V hV)) (hm _ hP) ((hT t ht).mono hd) hA) hb A
end Go.Proofs.YtfeppannfcbakaaGreatDoor
