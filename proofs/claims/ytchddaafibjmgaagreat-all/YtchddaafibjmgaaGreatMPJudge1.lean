import Derived.Test.YtchddaafibjmgaaGreatMA6
import Derived.Conc.SmallLaws
set_option maxRecDepth 100000
set_option maxHeartbeats 20000000
namespace Go.Proofs.YtchddaafibjmgaaGreat
section
open Go.RowKit Go.Maps
attribute [local go_sem] Go.wp_at_zero Go.wp_at_succ
def qd9 (left room:Int):Int:=if room=0 then 0 else if left < 0 then 0 else left * 100 / room
theorem share_any (left room:Int) (w:World) (h1: -1000000000000000≤left∧left≤1099511627776) (h2:0≤room∧room≤1099511627776) (h3:left≤room):
    Calls Tryz.prog 108 #[.int .i64 left,.int .i64 room] w fun e w'=>e= .returned (.int .i64 (qd9 left room))∧w'=w:=by
  by_cases h0:room=0
  · subst h0
    go_enter Tryz.func108,Tryz.ntmps108
    go_wp2
    go_ret
    exact ⟨rfl,rfl⟩
  · have h0':(room==0)=false:=by simpa using h0
    by_cases hl:left < 0
    · have HE:Hid (qd9 left room=0):=by show qd9 _ _=_;simp [qd9,h0,hl]
      go_enter Tryz.func108,Tryz.ntmps108
      go_wp2
      go_ret
      exact ⟨by rw [HE.out];rfl,rfl⟩
    · have HE:Hid (qd9 left room=left * 100 / room):=by show qd9 _ _=_;simp [qd9,h0,hl]
      have hl':0≤left:=by omega
      clear hl
      go_enter Tryz.func108,Tryz.ntmps108
      go_wp2
      go_ret
      exact ⟨by rw [HE.out];rfl,rfl⟩
theorem sum_any (a0 a1 a2 b0 b1 b2:Int) (w:World) (h: ∀ x∈ [a0,a1,a2,b0,b1,b2],0≤x∧x≤1000000000000000):
    Calls Tryz.prog 89 #[.agg #[.int .i64 a0,.int .i64 a1,.int .i64 a2],.agg #[.int .i64 b0,.int .i64 b1,.int .i64 b2]] w fun e w'=>e= .returned (.agg #[.int .i64 (a0+b0),.int .i64 (a1+b1),.int .i64 (a2+b2)])∧Below w.heap.size w w':=by
  simp only [List.mem_cons,List.not_mem_nil,or_false,forall_eq_or_imp,forall_eq] at h
  obtain ⟨q0,q1,q2,q3,q4,q5⟩:=h
  go_enter Tryz.func89,Tryz.ntmps89
  go_wp2
  refine wp_loop_rounds 4 ?_
  rw [rounds_succ]
  go_wp2
  go_region
  go_wp2
  rw [rounds_succ]
  go_wp2
  go_region
  go_wp2
  rw [rounds_succ]
  go_wp2
  go_region
  go_wp2
  rw [rounds_succ]
  go_wp2
  refine bodyPost_ret (v:= .agg #[.int .i64 (a0+b0),.int .i64 (a1+b1),.int .i64 (a2+b2)]) (by simp [results,Tryz.results89,go_sem]) rfl ⟨rfl,?_⟩
  repeat' (first| exact qi _ _| (refine Below.drew ?_)| (refine qj ?_ (qi _ _)))
def scoreI (r0 r1 r2 u0 u1 u2 n0 n1 n2:Int):Int:=qd9 (r0 - u0 - n0) r0+qd9 (r1 - u1 - n1) r1+qd9 (r2 - u2 - n2) r2
theorem shareI_bound {left room:Int} (h2:0≤room) (h3:left≤room):0≤qd9 left room∧qd9 left room≤100:=by
  unfold qd9
  split
  · omega
  · split
    · omega
    · rename_i h4 h5
      have hr:0 < room:=by omega
      constructor
      · exact Int.ediv_nonneg (by omega) (by omega)
      · have:left * 100 / room≤100:=by
          apply Int.ediv_le_of_le_mul hr
          omega
        exact this
theorem pscore_any (r0 r1 r2 u0 u1 u2 n0 n1 n2:Int) (w:World) (hr: ∀ x∈ [r0,r1,r2,n0,n1,n2],0≤x∧x≤1099511627776) (hu: ∀ x∈ [u0,u1,u2],0≤x∧x≤500000000000000):
    Calls Tryz.prog 98 #[.agg #[.int .i64 r0,.int .i64 r1,.int .i64 r2],.agg #[.int .i64 u0,.int .i64 u1,.int .i64 u2],.agg #[.int .i64 n0,.int .i64 n1,.int .i64 n2]] w fun e w'=>e= .returned (.int .i64 (scoreI r0 r1 r2 u0 u1 u2 n0 n1 n2))∧Below w.heap.size w w':=by
  simp only [List.mem_cons,List.not_mem_nil,or_false,forall_eq_or_imp,forall_eq] at hr hu
  obtain ⟨q0,q1,q2,q3,q4,q5⟩:=hr
  obtain ⟨v0,v1,v2⟩:=hu
  have c0:=fun W=>share_any (r0 - u0 - n0) r0 W (by omega) q0 (by omega)
  have c1:=fun W=>share_any (r1 - u1 - n1) r1 W (by omega) q1 (by omega)
  have c2:=fun W=>share_any (r2 - u2 - n2) r2 W (by omega) q2 (by omega)
  have b0:=shareI_bound (left:=r0 - u0 - n0) q0.1 (by omega)
  have b1:=shareI_bound (left:=r1 - u1 - n1) q1.1 (by omega)
  have b2:=shareI_bound (left:=r2 - u2 - n2) q2.1 (by omega)
  have HE:Hid (scoreI r0 r1 r2 u0 u1 u2 n0 n1 n2=qd9 (r0 - u0 - n0) r0+qd9 (r1 - u1 - n1) r1+qd9 (r2 - u2 - n2) r2):=rfl
  generalize qd9 (r0 - u0 - n0) r0=S0 at *
  generalize qd9 (r1 - u1 - n1) r1=S1 at *
  generalize qd9 (r2 - u2 - n2) r2=S2 at *
  have y0:IntKind.i64.wrap S0=S0:=IntWalk.i64_in _ (by omega)
  have y1:IntKind.i64.wrap (S0+S1)=S0+S1:=IntWalk.i64_in _ (by omega)
  have y2:IntKind.i64.wrap (S0+S1+S2)=S0+S1+S2:=IntWalk.i64_in _ (by omega)
  have w0:IntKind.i64.wrap (r0 - u0)=r0 - u0:=IntWalk.i64_in _ (by omega)
  have x0:IntKind.i64.wrap (r0 - u0 - n0)=r0 - u0 - n0:=IntWalk.i64_in _ (by omega)
  have w1:IntKind.i64.wrap (r1 - u1)=r1 - u1:=IntWalk.i64_in _ (by omega)
  have x1:IntKind.i64.wrap (r1 - u1 - n1)=r1 - u1 - n1:=IntWalk.i64_in _ (by omega)
  have w2:IntKind.i64.wrap (r2 - u2)=r2 - u2:=IntWalk.i64_in _ (by omega)
  have x2:IntKind.i64.wrap (r2 - u2 - n2)=r2 - u2 - n2:=IntWalk.i64_in _ (by omega)
  have f00:(((w.alloc (.cells #[.int .i64 r0,.int .i64 r1,.int .i64 r2] 67)).alloc (.cells #[.int .i64 u0,.int .i64 u1,.int .i64 u2] 67)).alloc (.cells #[.int .i64 n0,.int .i64 n1,.int .i64 n2] 67)).cell? ⟨w.heap.size,0,none⟩=some (.int .i64 r0):=by
    rw [ql (c:= #[.int .i64 r0,.int .i64 r1,.int .i64 r2]) (e:=67) (fr:=(0,0)) (at_old (at_old (qgl rfl)))];rfl
  have f01:(((w.alloc (.cells #[.int .i64 r0,.int .i64 r1,.int .i64 r2] 67)).alloc (.cells #[.int .i64 u0,.int .i64 u1,.int .i64 u2] 67)).alloc (.cells #[.int .i64 n0,.int .i64 n1,.int .i64 n2] 67)).cell? ⟨w.heap.size,1,none⟩=some (.int .i64 r1):=by
    rw [ql (c:= #[.int .i64 r0,.int .i64 r1,.int .i64 r2]) (e:=67) (fr:=(0,0)) (at_old (at_old (qgl rfl)))];rfl
  have f02:(((w.alloc (.cells #[.int .i64 r0,.int .i64 r1,.int .i64 r2] 67)).alloc (.cells #[.int .i64 u0,.int .i64 u1,.int .i64 u2] 67)).alloc (.cells #[.int .i64 n0,.int .i64 n1,.int .i64 n2] 67)).cell? ⟨w.heap.size,2,none⟩=some (.int .i64 r2):=by
    rw [ql (c:= #[.int .i64 r0,.int .i64 r1,.int .i64 r2]) (e:=67) (fr:=(0,0)) (at_old (at_old (qgl rfl)))];rfl
  have f10:(((w.alloc (.cells #[.int .i64 r0,.int .i64 r1,.int .i64 r2] 67)).alloc (.cells #[.int .i64 u0,.int .i64 u1,.int .i64 u2] 67)).alloc (.cells #[.int .i64 n0,.int .i64 n1,.int .i64 n2] 67)).cell? ⟨w.heap.size+1,0,none⟩=some (.int .i64 u0):=by
    rw [ql (c:= #[.int .i64 u0,.int .i64 u1,.int .i64 u2]) (e:=67) (fr:=(0,0)) (at_old (qgl (by simp)))];rfl
  have f11:(((w.alloc (.cells #[.int .i64 r0,.int .i64 r1,.int .i64 r2] 67)).alloc (.cells #[.int .i64 u0,.int .i64 u1,.int .i64 u2] 67)).alloc (.cells #[.int .i64 n0,.int .i64 n1,.int .i64 n2] 67)).cell? ⟨w.heap.size+1,1,none⟩=some (.int .i64 u1):=by
    rw [ql (c:= #[.int .i64 u0,.int .i64 u1,.int .i64 u2]) (e:=67) (fr:=(0,0)) (at_old (qgl (by simp)))];rfl
  have f12:(((w.alloc (.cells #[.int .i64 r0,.int .i64 r1,.int .i64 r2] 67)).alloc (.cells #[.int .i64 u0,.int .i64 u1,.int .i64 u2] 67)).alloc (.cells #[.int .i64 n0,.int .i64 n1,.int .i64 n2] 67)).cell? ⟨w.heap.size+1,2,none⟩=some (.int .i64 u2):=by
    rw [ql (c:= #[.int .i64 u0,.int .i64 u1,.int .i64 u2]) (e:=67) (fr:=(0,0)) (at_old (qgl (by simp)))];rfl
  have f20:(((w.alloc (.cells #[.int .i64 r0,.int .i64 r1,.int .i64 r2] 67)).alloc (.cells #[.int .i64 u0,.int .i64 u1,.int .i64 u2] 67)).alloc (.cells #[.int .i64 n0,.int .i64 n1,.int .i64 n2] 67)).cell? ⟨w.heap.size+1+1,0,none⟩=some (.int .i64 n0):=by
    rw [ql (c:= #[.int .i64 n0,.int .i64 n1,.int .i64 n2]) (e:=67) (fr:=(0,0)) (qgl (by simp))];rfl
  have f21:(((w.alloc (.cells #[.int .i64 r0,.int .i64 r1,.int .i64 r2] 67)).alloc (.cells #[.int .i64 u0,.int .i64 u1,.int .i64 u2] 67)).alloc (.cells #[.int .i64 n0,.int .i64 n1,.int .i64 n2] 67)).cell? ⟨w.heap.size+1+1,1,none⟩=some (.int .i64 n1):=by
    rw [ql (c:= #[.int .i64 n0,.int .i64 n1,.int .i64 n2]) (e:=67) (fr:=(0,0)) (qgl (by simp))];rfl
  have f22:(((w.alloc (.cells #[.int .i64 r0,.int .i64 r1,.int .i64 r2] 67)).alloc (.cells #[.int .i64 u0,.int .i64 u1,.int .i64 u2] 67)).alloc (.cells #[.int .i64 n0,.int .i64 n1,.int .i64 n2] 67)).cell? ⟨w.heap.size+1+1,2,none⟩=some (.int .i64 n2):=by
    rw [ql (c:= #[.int .i64 n0,.int .i64 n1,.int .i64 n2]) (e:=67) (fr:=(0,0)) (qgl (by simp))];rfl
  have hWb:Below w.heap.size w (((w.alloc (.cells #[.int .i64 r0,.int .i64 r1,.int .i64 r2] 67)).alloc (.cells #[.int .i64 u0,.int .i64 u1,.int .i64 u2] 67)).alloc (.cells #[.int .i64 n0,.int .i64 n1,.int .i64 n2] 67)):=qj (qj (qi _ _) (qi _ _)) (qi _ _)
  go_enter Tryz.func98,Tryz.ntmps98
  go_wp2
  generalize (((w.alloc (.cells #[.int .i64 r0,.int .i64 r1,.int .i64 r2] 67)).alloc (.cells #[.int .i64 u0,.int .i64 u1,.int .i64 u2] 67)).alloc (.cells #[.int .i64 n0,.int .i64 n1,.int .i64 n2] 67))=W at *
  refine wp_loop_rounds 4 ?_
  rw [rounds_succ]
  go_wp2
  go_region_held3 (fun w'=>w'.cell? ⟨w.heap.size,0,none⟩=some (.int .i64 r0)∧w'.cell? ⟨w.heap.size+1,0,none⟩=some (.int .i64 u0)∧w'.cell? ⟨w.heap.size+1+1,0,none⟩=some (.int .i64 n0)) (go_keep)
    (first| (go_at_call 108;refine (c0 _).mono ?_;rintro e w01 ⟨rfl,rfl⟩))
  go_wp2
  rw [rounds_succ]
  go_wp2
  go_region_held3 (fun w'=>w'.cell? ⟨w.heap.size,1,none⟩=some (.int .i64 r1)∧w'.cell? ⟨w.heap.size+1,1,none⟩=some (.int .i64 u1)∧w'.cell? ⟨w.heap.size+1+1,1,none⟩=some (.int .i64 n1)) (go_keep)
    (first| (go_at_call 108;refine (c1 _).mono ?_;rintro e w11 ⟨rfl,rfl⟩))
  go_wp2
  rw [rounds_succ]
  go_wp2
  go_region_held3 (fun w'=>w'.cell? ⟨w.heap.size,2,none⟩=some (.int .i64 r2)∧w'.cell? ⟨w.heap.size+1,2,none⟩=some (.int .i64 u2)∧w'.cell? ⟨w.heap.size+1+1,2,none⟩=some (.int .i64 n2)) (go_keep)
    (first| (go_at_call 108;refine (c2 _).mono ?_;rintro e w21 ⟨rfl,rfl⟩))
  go_wp2
  rw [rounds_succ]
  go_wp2
  go_ret
  refine ⟨by rw [HE.out];rfl,?_⟩
  repeat' (first| exact hWb| (refine Below.drew ?_)| (refine below_drewN ?_ _))
def qbg (r0 r1 r2 u0 u1 u2 n0 n1 n2:Int):Bool:=(decide (0 < n0)&&decide (r0 - u0 < n0)) || ((decide (0 < n1)&&decide (r1 - u1 < n1)) || (decide (0 < n2)&&decide (r2 - u2 < n2)))
theorem qdb (r0 r1 r2 u0 u1 u2 n0 n1 n2:Int) (w:World) (hr: ∀ x∈ [r0,r1,r2,n0,n1,n2],0≤x∧x≤1099511627776) (hu: ∀ x∈ [u0,u1,u2],0≤x∧x≤500000000000000):
    Calls Tryz.prog 103 #[.agg #[.int .i64 r0,.int .i64 r1,.int .i64 r2],.agg #[.int .i64 u0,.int .i64 u1,.int .i64 u2],.agg #[.int .i64 n0,.int .i64 n1,.int .i64 n2]] w fun e w'=>e= .returned (.bool (qbg r0 r1 r2 u0 u1 u2 n0 n1 n2))∧Below w.heap.size w w':=by
  simp only [List.mem_cons,List.not_mem_nil,or_false,forall_eq_or_imp,forall_eq] at hr hu
  obtain ⟨q0,q1,q2,q3,q4,q5⟩:=hr
  obtain ⟨v0,v1,v2⟩:=hu
  have w0:IntKind.i64.wrap (r0 - u0)=r0 - u0:=IntWalk.i64_in _ (by omega)
  have w1:IntKind.i64.wrap (r1 - u1)=r1 - u1:=IntWalk.i64_in _ (by omega)
  have w2:IntKind.i64.wrap (r2 - u2)=r2 - u2:=IntWalk.i64_in _ (by omega)
  go_enter Tryz.func103,Tryz.ntmps103
  go_wp2
  refine wp_loop_rounds 4 ?_
  rw [rounds_succ]
  rcases Decidable.em (0 < n0) with h0| h0
  · rcases Decidable.em (r0 - u0 < n0) with g0| g0
    · have HE:Hid (qbg r0 r1 r2 u0 u1 u2 n0 n1 n2=true):=by show qbg _ _ _ _ _ _ _ _ _=true;simp [qbg,h0,g0]
      go_wp2
      go_quiet (fail)
      go_wp2
      go_ret
      refine ⟨by rw [HE.out];rfl,?_⟩
      repeat' (first| exact qi _ _| (refine Below.drew ?_)| (refine below_drewN ?_ _)| (refine qj ?_ (qi _ _)))
    · have HG0:Hid (decide (r0 - u0 < n0)=false):=by show decide _=false;simpa using g0
      have gg0:=HG0.out
      clear g0
      have HS0:Hid ((decide (0 < n0)&&decide (r0 - u0 < n0))=false):=by show (_&&_)=false;rw [HG0.out,Bool.and_false]
      go_wp2
      go_quiet (fail)
      go_wp2
      rw [rounds_succ]
      rcases Decidable.em (0 < n1) with h1| h1
      · rcases Decidable.em (r1 - u1 < n1) with g1| g1
        · have HE:Hid (qbg r0 r1 r2 u0 u1 u2 n0 n1 n2=true):=by show qbg _ _ _ _ _ _ _ _ _=true;simp [qbg,h1,g1]
          go_wp2
          go_quiet (fail)
          go_wp2
          go_ret
          refine ⟨by rw [HE.out];rfl,?_⟩
          repeat' (first| exact qi _ _| (refine Below.drew ?_)| (refine below_drewN ?_ _)| (refine qj ?_ (qi _ _)))
        · have HG1:Hid (decide (r1 - u1 < n1)=false):=by show decide _=false;simpa using g1
          have gg1:=HG1.out
          clear g1
          have HS1:Hid ((decide (0 < n1)&&decide (r1 - u1 < n1))=false):=by show (_&&_)=false;rw [HG1.out,Bool.and_false]
          go_wp2
          go_quiet (fail)
          go_wp2
          rw [rounds_succ]
          rcases Decidable.em (0 < n2) with h2| h2
          · rcases Decidable.em (r2 - u2 < n2) with g2| g2
            · have HE:Hid (qbg r0 r1 r2 u0 u1 u2 n0 n1 n2=true):=by show qbg _ _ _ _ _ _ _ _ _=true;simp [qbg,h2,g2]
              go_wp2
              go_quiet (fail)
              go_wp2
              go_ret
              refine ⟨by rw [HE.out];rfl,?_⟩
              repeat' (first| exact qi _ _| (refine Below.drew ?_)| (refine below_drewN ?_ _)| (refine qj ?_ (qi _ _)))
            · have HG2:Hid (decide (r2 - u2 < n2)=false):=by show decide _=false;simpa using g2
              have gg2:=HG2.out
              clear g2
              have HS2:Hid ((decide (0 < n2)&&decide (r2 - u2 < n2))=false):=by show (_&&_)=false;rw [HG2.out,Bool.and_false]
              go_wp2
              go_quiet (fail)
              go_wp2
              rw [rounds_succ]
              go_wp2
              go_ret
              refine ⟨by rw [qbg,HS0.out,HS1.out,HS2.out];rfl,?_⟩
              repeat' (first| exact qi _ _| (refine Below.drew ?_)| (refine below_drewN ?_ _)| (refine qj ?_ (qi _ _)))
          · have HG2:Hid (decide (0 < n2)=false):=by show decide _=false;simpa using h2
            have gg2:=HG2.out
            clear h2
            have HS2:Hid ((decide (0 < n2)&&decide (r2 - u2 < n2))=false):=by show (_&&_)=false;rw [HG2.out,Bool.false_and]
            go_wp2
            go_quiet (fail)
            go_wp2
            rw [rounds_succ]
            go_wp2
            go_ret
            refine ⟨by rw [qbg,HS0.out,HS1.out,HS2.out];rfl,?_⟩
            repeat' (first| exact qi _ _| (refine Below.drew ?_)| (refine below_drewN ?_ _)| (refine qj ?_ (qi _ _)))
      · have HG1:Hid (decide (0 < n1)=false):=by show decide _=false;simpa using h1
        have gg1:=HG1.out
        clear h1
        have HS1:Hid ((decide (0 < n1)&&decide (r1 - u1 < n1))=false):=by show (_&&_)=false;rw [HG1.out,Bool.false_and]
        go_wp2
        go_quiet (fail)
        go_wp2
        rw [rounds_succ]
        rcases Decidable.em (0 < n2) with h2| h2
        · rcases Decidable.em (r2 - u2 < n2) with g2| g2
          · have HE:Hid (qbg r0 r1 r2 u0 u1 u2 n0 n1 n2=true):=by show qbg _ _ _ _ _ _ _ _ _=true;simp [qbg,h2,g2]
            go_wp2
            go_quiet (fail)
            go_wp2
            go_ret
            refine ⟨by rw [HE.out];rfl,?_⟩
            repeat' (first| exact qi _ _| (refine Below.drew ?_)| (refine below_drewN ?_ _)| (refine qj ?_ (qi _ _)))
          · have HG2:Hid (decide (r2 - u2 < n2)=false):=by show decide _=false;simpa using g2
            have gg2:=HG2.out
            clear g2
            have HS2:Hid ((decide (0 < n2)&&decide (r2 - u2 < n2))=false):=by show (_&&_)=false;rw [HG2.out,Bool.and_false]
            go_wp2
            go_quiet (fail)
            go_wp2
            rw [rounds_succ]
            go_wp2
            go_ret
            refine ⟨by rw [qbg,HS0.out,HS1.out,HS2.out];rfl,?_⟩
            repeat' (first| exact qi _ _| (refine Below.drew ?_)| (refine below_drewN ?_ _)| (refine qj ?_ (qi _ _)))
        · have HG2:Hid (decide (0 < n2)=false):=by show decide _=false;simpa using h2
          have gg2:=HG2.out
          clear h2
          have HS2:Hid ((decide (0 < n2)&&decide (r2 - u2 < n2))=false):=by show (_&&_)=false;rw [HG2.out,Bool.false_and]
          go_wp2
          go_quiet (fail)
          go_wp2
          rw [rounds_succ]
          go_wp2
          go_ret
          refine ⟨by rw [qbg,HS0.out,HS1.out,HS2.out];rfl,?_⟩
          repeat' (first| exact qi _ _| (refine Below.drew ?_)| (refine below_drewN ?_ _)| (refine qj ?_ (qi _ _)))
  · have HG0:Hid (decide (0 < n0)=false):=by show decide _=false;simpa using h0
    have gg0:=HG0.out
    clear h0
    have HS0:Hid ((decide (0 < n0)&&decide (r0 - u0 < n0))=false):=by show (_&&_)=false;rw [HG0.out,Bool.false_and]
    go_wp2
    go_quiet (fail)
    go_wp2
    rw [rounds_succ]
    rcases Decidable.em (0 < n1) with h1| h1
    · rcases Decidable.em (r1 - u1 < n1) with g1| g1
      · have HE:Hid (qbg r0 r1 r2 u0 u1 u2 n0 n1 n2=true):=by show qbg _ _ _ _ _ _ _ _ _=true;simp [qbg,h1,g1]
        go_wp2
        go_quiet (fail)
        go_wp2
        go_ret
        refine ⟨by rw [HE.out];rfl,?_⟩
        repeat' (first| exact qi _ _| (refine Below.drew ?_)| (refine below_drewN ?_ _)| (refine qj ?_ (qi _ _)))
      · have HG1:Hid (decide (r1 - u1 < n1)=false):=by show decide _=false;simpa using g1
        have gg1:=HG1.out
        clear g1
        have HS1:Hid ((decide (0 < n1)&&decide (r1 - u1 < n1))=false):=by show (_&&_)=false;rw [HG1.out,Bool.and_false]
        go_wp2
        go_quiet (fail)
        go_wp2
        rw [rounds_succ]
        rcases Decidable.em (0 < n2) with h2| h2
        · rcases Decidable.em (r2 - u2 < n2) with g2| g2
          · have HE:Hid (qbg r0 r1 r2 u0 u1 u2 n0 n1 n2=true):=by show qbg _ _ _ _ _ _ _ _ _=true;simp [qbg,h2,g2]
            go_wp2
            go_quiet (fail)
            go_wp2
            go_ret
            refine ⟨by rw [HE.out];rfl,?_⟩
            repeat' (first| exact qi _ _| (refine Below.drew ?_)| (refine below_drewN ?_ _)| (refine qj ?_ (qi _ _)))
          · have HG2:Hid (decide (r2 - u2 < n2)=false):=by show decide _=false;simpa using g2
            have gg2:=HG2.out
            clear g2
            have HS2:Hid ((decide (0 < n2)&&decide (r2 - u2 < n2))=false):=by show (_&&_)=false;rw [HG2.out,Bool.and_false]
            go_wp2
            go_quiet (fail)
            go_wp2
            rw [rounds_succ]
            go_wp2
            go_ret
            refine ⟨by rw [qbg,HS0.out,HS1.out,HS2.out];rfl,?_⟩
            repeat' (first| exact qi _ _| (refine Below.drew ?_)| (refine below_drewN ?_ _)| (refine qj ?_ (qi _ _)))
        · have HG2:Hid (decide (0 < n2)=false):=by show decide _=false;simpa using h2
          have gg2:=HG2.out
          clear h2
          have HS2:Hid ((decide (0 < n2)&&decide (r2 - u2 < n2))=false):=by show (_&&_)=false;rw [HG2.out,Bool.false_and]
          go_wp2
          go_quiet (fail)
          go_wp2
          rw [rounds_succ]
          go_wp2
          go_ret
          refine ⟨by rw [qbg,HS0.out,HS1.out,HS2.out];rfl,?_⟩
          repeat' (first| exact qi _ _| (refine Below.drew ?_)| (refine below_drewN ?_ _)| (refine qj ?_ (qi _ _)))
    · have HG1:Hid (decide (0 < n1)=false):=by show decide _=false;simpa using h1
      have gg1:=HG1.out
      clear h1
      have HS1:Hid ((decide (0 < n1)&&decide (r1 - u1 < n1))=false):=by show (_&&_)=false;rw [HG1.out,Bool.false_and]
      go_wp2
      go_quiet (fail)
      go_wp2
      rw [rounds_succ]
      rcases Decidable.em (0 < n2) with h2| h2
      · rcases Decidable.em (r2 - u2 < n2) with g2| g2
        · have HE:Hid (qbg r0 r1 r2 u0 u1 u2 n0 n1 n2=true):=by show qbg _ _ _ _ _ _ _ _ _=true;simp [qbg,h2,g2]
          go_wp2
          go_quiet (fail)
          go_wp2
          go_ret
          refine ⟨by rw [HE.out];rfl,?_⟩
          repeat' (first| exact qi _ _| (refine Below.drew ?_)| (refine below_drewN ?_ _)| (refine qj ?_ (qi _ _)))
        · have HG2:Hid (decide (r2 - u2 < n2)=false):=by show decide _=false;simpa using g2
          have gg2:=HG2.out
          clear g2
          have HS2:Hid ((decide (0 < n2)&&decide (r2 - u2 < n2))=false):=by show (_&&_)=false;rw [HG2.out,Bool.and_false]
          go_wp2
          go_quiet (fail)
          go_wp2
          rw [rounds_succ]
          go_wp2
          go_ret
          refine ⟨by rw [qbg,HS0.out,HS1.out,HS2.out];rfl,?_⟩
          repeat' (first| exact qi _ _| (refine Below.drew ?_)| (refine below_drewN ?_ _)| (refine qj ?_ (qi _ _)))
      · have HG2:Hid (decide (0 < n2)=false):=by show decide _=false;simpa using h2
        have gg2:=HG2.out
        clear h2
        have HS2:Hid ((decide (0 < n2)&&decide (r2 - u2 < n2))=false):=by show (_&&_)=false;rw [HG2.out,Bool.false_and]
        go_wp2
        go_quiet (fail)
        go_wp2
        rw [rounds_succ]
        go_wp2
        go_ret
        refine ⟨by rw [qbg,HS0.out,HS1.out,HS2.out];rfl,?_⟩
        repeat' (first| exact qi _ _| (refine Below.drew ?_)| (refine below_drewN ?_ _)| (refine qj ?_ (qi _ _)))
end
end Go.Proofs.YtchddaafibjmgaaGreat
