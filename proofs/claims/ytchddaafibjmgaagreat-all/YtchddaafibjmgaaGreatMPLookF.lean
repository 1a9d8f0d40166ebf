import Derived.Test.YtchddaafibjmgaaGreatMA11
set_option maxRecDepth 100000
set_option maxHeartbeats 20000000
namespace Go.Proofs.YtchddaafibjmgaaGreat
section
open Go.RowKit Go.Maps
theorem look_false {F:Nat→Prop} {w:World} {Y:Nat} {hd:Head} {g:Gh} (H:BMem F w Y hd g) (hS:qg7 g) (hN:g.NN.length≤32) (hVl:g.VV.length < 1000) (hpk: ∀ p∈g.PP,p.1.length≤maxLen∧p.2.2.node.length≤maxLen) (hwh:hd.whole=false):
    Calls Tryz.prog 84 #[.pointer (some ⟨Y,0,none⟩)] w fun e w'=>e= .returned (.tuple #[])∧ ∃ W wa AN L,BMem F W Y hd g∧Kept (fun b=>b=g.bv) w W∧Below W.heap.size W wa∧Kept (fun b=>b=g.bv) wa w'∧qch W.heap.size wa g AN g.PP.length∧
      qai Tryz.prog w' 9 g.bv L∧ ∀ k,getL L k=((getL AN k).map qba.val).orElse fun _=>(getL g.VV k).map qba.val:=by
  obtain ⟨-,-,hc2,-,-⟩:=H.cells
  rw [hwh] at hc2
  have hc7:=H.cV
  have hc4:=H.cN
  have hmm:= @run_makeMap Tryz.prog
  have H0:=H
  have K0:Hid (Kept (fun b=>b=g.bv) w w):=Kept.refl _ _
  have hSp:=hS.pods
  have hSn:=hS.need
  have hY:=H0.lt Y H0.fy
  have yc:=fun W (hb:Below w.heap.size w W)=>(H0.below hb).cN
  have y4:=H0.cN
  have y4':=fun o=>yc _ (qi w o)
  have hb0:=qi w (.map #[] 0)
  have nd0:=(H0.below hb0).nd
  have HH:Hid (BMem F w Y hd g):=H0
  have man:qai Tryz.prog (w.alloc (.map #[] 0)) 9 w.heap.size (mapV qba.val []):=qai.made Tryz.prog w 9
  clear H hS
  go_enter Tryz.func84,Tryz.ntmps84
  go_wp2_with (at_range;refine qg9 _ rfl _ 112 rfl 9 127 strK Tryz.underlying112 g.bn _ rfl (by exact nd0) ?_;intro w2 hr2 hn2 hb2 hs2)
  simp only [World.size_alloc] at hr2 hn2
  rw [qw] at hn2
  have hB2:Below w.heap.size w w2:=qj hb0 hb2
  have M2:Hid (qai Tryz.prog w2 9 w.heap.size (mapV qba.val [])):=man.kept (Kept.of_below (F:=qq) hb2) id
  clear hs2 hb2 man nd0 hb0 y4 y4' yc
  try go_frame
  try simp only [World.size_alloc]
  go_loopw [3] (fun _ wr=> ∃ todo AN,qdx Tryz.prog wr 9 g.bn (w.heap.size+1) (mapV (·.1) g.NN) todo∧qai Tryz.prog wr 9 w.heap.size (mapV qba.val AN)∧Below w.heap.size w wr∧(∀ k,getL AN k=if cond g k&& !todo k then some qfm else none)∧AN.length+wr.rangeLeft g.bn (w.heap.size+1)≤32) (fun _ wr=>wr.rangeLeft g.bn (w.heap.size+1))
  case atStart=>
    refine ⟨_,[],hr2,M2.out,hB2,fun k=> ?_,by rw [hn2];simpa using hN⟩
    rw [qz]
    show none=_
    unfold cond
    cases getL g.NN k<;>simp
  case round=>
    clear hr2 M2 hB2 hn2
    obtain ⟨todo,AN,hrg,hM,hbw,hO,hlen⟩:=hrel
    have HO:Hid (∀ k,getL AN k=if cond g k&& !todo k then some qfm else none):=hO
    clear hO
    have hbn:g.bn < w.heap.size:=HH.out.lt _ (HH.out.fm g.bn (by simp [Gh.maps]))
    have hbv:g.bv < w.heap.size:=HH.out.lt _ (HH.out.fm g.bv (by simp [Gh.maps]))
    go_wp2_with (at_next;refine qe5 _ rfl _ rfl 9 strK Value.string (fun v:Value=>v) g.bn (w.heap.size+1) _ todo (fun _ _=>strInv) (fun _ v _=>⟨v,rfl⟩) rfl hrg ?_ ?_)
    · intro hl0
      have hO': ∀ k,getL AN k=if cond g k then some qfm else none:=fun k=>by rw [HO.out,hl0];simp
      have HL:Hid (qch w.heap.size wr g AN 0):=qch.start hO'
      have Hr:=HH.out.below hbw
      have hx5:=Hr.cP
      have hpd:=Hr.pd
      have cs:=sortedP_any hpd (by rw [qw];show g.PP.length≤_;omega)
      rw [qw,qeq] at cs
      have ck:=keysP_any g.bp wr
      have hlen':AN.length≤32:=by omega
      clear hrg HO hO' Hr hpd hlen
      go_wp2_with (first
        | (go_at_call 80;refine ck.mono ?_;rintro e w4 ⟨rfl,rfl⟩)
        | (go_at_call 78;refine cs.mono ?_;rintro e w4 ⟨ao,cap,rfl,hrow,hb4⟩))
      have hb04:Below w.heap.size w w4:=qj hbw hb4
      have HL4:Hid (qch w.heap.size w4 g AN 0):=HL.out.kept (Kept.of_below (F:=qq) hb4) fun _ _ _ _ _=>id
      have M4:Hid (qai Tryz.prog w4 9 w.heap.size (mapV qba.val AN)):=hM.kept (Kept.of_below (F:=qq) hb4) id
      have HR4:Hid (w4.ownsRow 0 9 1 (.slice ao g.PP.length cap) g.PP.length (qa9 g.PP)):=hrow
      clear HL hM hrow hb4 hbw ck cs hx5
      go_loopw [52] (fun i wi=> ∃ (k:Nat) (AN:List (qn×qba)),k≤g.PP.length∧i= .int .i64 k∧Below w.heap.size w wi∧qai Tryz.prog wi 9 w.heap.size (mapV qba.val AN)∧qch w.heap.size wi g AN k∧wi.ownsRow 0 9 1 (.slice ao g.PP.length cap) g.PP.length (qa9 g.PP)∧AN.length≤32) (fun i _=>g.PP.length - (intOf i).toNat)
      case atStart=>exact ⟨0,AN,Nat.zero_le _,rfl,hb04,M4.out,HL4.out,HR4.out,hlen'⟩
      case round=>
        clear hb04 M4 HL4 HR4 hlen'
        obtain ⟨k,AN,hk,rfl,hbi,hMi,hLi,hRi,hlen⟩:=hrel
        have HLi:Hid (qch w.heap.size wr g AN k):=hLi
        have HRi:Hid (wr.ownsRow 0 9 1 (.slice ao g.PP.length cap) g.PP.length (qa9 g.PP)):=hRi
        clear hLi hRi
        have Hi:=HH.out.below hbi
        by_cases hlt:k < g.PP.length
        · have hpkk:=hpk g.PP[k] (List.getElem_mem hlt)
          obtain ⟨gb,rfl,hg,hcl⟩:=own_at HRi.out (by omega)
          have hcell:wr.cell? ⟨gb,k,none⟩=some (.string (bs g.PP[k].1)):=by
            rw [hcl k hlt]
            simp [qa9,hlt]
          have hP:getL g.PP g.PP[k].1=some g.PP[k].2:=qac Hi.sortP.distinct (show (g.PP[k].1,g.PP[k].2)∈g.PP from List.getElem_mem hlt)
          obtain ⟨hp1,hp2⟩:=Hi.getP hP
          have lr:=fun Wp hb B hcc=>fun (v:qba) (hv:getL AN g.PP[k].2.2.node=some v) (ao2:Option Addr) (cap2:Nat) (hrow:v.row= .slice ao2 v.ptrs.length cap2)=>look_round (W0:=w) (wr:=wr) (Wp:=Wp) (g:=g) (k:=k) hbi hb hMi HLi.out HRi.out hlen hlt (v:=v) hv hrow hSp B hcc hpkk.2
          have Hskip:Hid (cond g g.PP[k].2.2.node=false→qch w.heap.size wr g AN (k+1)):=fun h=>HLi.out.skip hlt h
          have hon:cond g g.PP[k].2.2.node=true→ ∃ v,getL AN g.PP[k].2.2.node=some v:=HLi.out.on _
          have hoff:cond g g.PP[k].2.2.node=false→getL AN g.PP[k].2.2.node=none:=HLi.out.off _
          have hnd:=hSn g.PP[k] (List.getElem_mem hlt)
          generalize g.PP[k]=E at *
          obtain ⟨nm,q,x⟩:=E
          dsimp only at *
          obtain ⟨pc0,pc1,pc2,-,pc6,-,-,-⟩:=hp2.cells
          have keyNm:keyOf Tryz.prog 9 (.string (bs nm))=some (.string nm):=by rw [keyS _ (by rw [qe1];exact hpkk.1),qga]
          have keyNd:keyOf Tryz.prog 9 (.string (bs x.node))=some (.string x.node):=by rw [keyS _ (by rw [qe1];exact hpkk.2),qga]
          have mpd:=Hi.pd
          have hx5:=Hi.cP
          have hqb: ∃ c,wr.heap[q]? =some (.cells c 132 (0,0)):=by
            obtain ⟨_,_,h,_⟩:=hp2
            exact ⟨_,h⟩
          have zq:q < w.heap.size:=by
            obtain ⟨_,_,_,h,_⟩:=hp2
            exact HH.out.lt _ h
          have hszi:=hbi.size
          have zban:=hMi.lt
          clear hcl hP hp2 Hi
          cases hc:cond g x.node
          · have hA':getL (mapV qba.val AN) x.node=none:=by rw [qz,hoff hc];rfl
            have HSk:=Hskip.out hc
            have HSk':Hid (qch w.heap.size wr g AN (k+1)):=HSk
            clear HSk hc hon hoff lr
            go_wp2_with (first
              | (at_lookup;refine qdp _ rfl _ _ 113 rfl 9 129 strK Tryz.underlying113 (qei _) g.bp _ rfl mpd _ nm rfl keyNm _ hp1 ?_)
              | (at_lookup;refine qbx _ rfl _ _ 115 rfl 9 188 strK Tryz.underlying115 (qfn _) w.heap.size _ rfl hMi _ x.node rfl keyNd hA' ?_))
            have hba:=qi wr (.cells #[.int .i64 0,.int .i64 0,.int .i64 0,.slice none 0 0] 188)
            have hka:=Kept.of_below (F:=qq) hba
            go_roundw
            case rel=>exact ⟨k+1,AN,by omega,by go_num,qj hbi hba,hMi.kept hka id,HSk'.out.kept hka fun _ _ _ _ _=>id,hka.ownsRow HRi.out fun _ _=>id,hlen⟩
            case measure=>simp [intOf];omega
          · obtain ⟨v,hv⟩:=hon hc
            obtain ⟨ao2,cap2,hrow⟩:=qv (HLi.out.row _ _ hv).1
            have hvrow:=(HLi.out.row _ _ hv).1
            rw [hrow] at hvrow
            have hA':getL (mapV qba.val AN) x.node=some (.agg #[.int .i64 v.u0,.int .i64 v.u1,.int .i64 v.u2,.slice ao2 v.ptrs.length cap2]):=by rw [qz,hv];show some (qba.val v)=_;rw [qba.val,hrow]
            have lr:=fun Wp hb B hcc=>lr Wp hb B hcc v hv ao2 cap2 hrow
            have hus:=qgd (mapV (·.2) (g.PP.take k)) (fun p hp=>by
              obtain ⟨p',hp',rfl⟩:=qer.1 hp
              exact hSn p' (List.mem_of_mem_take hp')) x.node
            rw [← HLi.out.used _ _ hv] at hus
            have hul:(mapV (·.2) (g.PP.take k)).length≤128:=by rw [qw];simp;omega
            have cS:=fun W=>sum_any v.u0 v.u1 v.u2 x.n0 x.n1 x.n2 W (by
              simp only [List.mem_cons,List.not_mem_nil,or_false,forall_eq_or_imp,forall_eq] at hus hnd ⊢
              omega)
            obtain ⟨cq,hqb⟩:=hqb
            have nq: ¬ (Value.slice ao2 v.ptrs.length cap2).ownBlock=some q:=qhe hvrow hqb (by decide)
            have nv: ¬ (Value.slice ao2 v.ptrs.length cap2).ownBlock=some wr.heap.size:=fun h=>by have:=(hvrow.lt _ h).2;omega
            have nqb: ¬ q=w.heap.size:=by omega
            have nvb: ¬ wr.heap.size=w.heap.size:=by omega
            have hb5B:Below wr.heap.size wr (wr.alloc (.cells #[.int .i64 v.u0,.int .i64 v.u1,.int .i64 v.u2,.slice ao2 v.ptrs.length cap2] 188)).drew:=(qi _ _).drew
            have hb5A:Below wr.heap.size wr ((wr.alloc (.cells #[.int .i64 v.u0,.int .i64 v.u1,.int .i64 v.u2,.slice ao2 v.ptrs.length cap2] 188)).alloc (.cells #[.pointer (some ⟨q,0,none⟩)] 129)).drew:=(qj (qi _ _) (qi _ _)).drew
            have zqB:q < (wr.alloc (.cells #[.int .i64 v.u0,.int .i64 v.u1,.int .i64 v.u2,.slice ao2 v.ptrs.length cap2] 188)).drew.heap.size:=by simp;omega
            have zvB:wr.heap.size < (wr.alloc (.cells #[.int .i64 v.u0,.int .i64 v.u1,.int .i64 v.u2,.slice ao2 v.ptrs.length cap2] 188)).drew.heap.size:=by simp
            have zqA:q < ((wr.alloc (.cells #[.int .i64 v.u0,.int .i64 v.u1,.int .i64 v.u2,.slice ao2 v.ptrs.length cap2] 188)).alloc (.cells #[.pointer (some ⟨q,0,none⟩)] 129)).drew.heap.size:=by simp;omega
            have zvA:wr.heap.size < ((wr.alloc (.cells #[.int .i64 v.u0,.int .i64 v.u1,.int .i64 v.u2,.slice ao2 v.ptrs.length cap2] 188)).alloc (.cells #[.pointer (some ⟨q,0,none⟩)] 129)).drew.heap.size:=by simp;omega
            have zbA:wr.heap.size+1 < ((wr.alloc (.cells #[.int .i64 v.u0,.int .i64 v.u1,.int .i64 v.u2,.slice ao2 v.ptrs.length cap2] 188)).alloc (.cells #[.pointer (some ⟨q,0,none⟩)] 129)).drew.heap.size:=by simp
            have hcA:((wr.alloc (.cells #[.int .i64 v.u0,.int .i64 v.u1,.int .i64 v.u2,.slice ao2 v.ptrs.length cap2] 188)).alloc (.cells #[.pointer (some ⟨q,0,none⟩)] 129)).drew.cell? ⟨wr.heap.size+1,0,none⟩=some (ptrV q):=(ql (qgl (w:=(wr.alloc (.cells #[.int .i64 v.u0,.int .i64 v.u1,.int .i64 v.u2,.slice ao2 v.ptrs.length cap2] 188))) (o:=(.cells #[.pointer (some ⟨q,0,none⟩)] 129)) (by simp))).trans rfl
            clear hc hon hoff Hskip hv hrow hvrow hus hul hqb hnd
            go_wp2_with (first
              | (at_lookup;refine qdp _ rfl _ _ 113 rfl 9 129 strK Tryz.underlying113 (qei _) g.bp _ rfl mpd _ nm rfl keyNm _ hp1 ?_)
              | (at_lookup;refine qbw _ rfl _ _ 115 rfl 9 188 strK Tryz.underlying115 (qfn _) w.heap.size _ rfl hMi _ x.node rfl keyNd _ hA' ?_))
            go_region_held3 (fun w'=>w'.cell? ⟨q,0,none⟩=some (.int .i64 x.n0)∧w'.cell? ⟨q,1,none⟩=some (.int .i64 x.n1)∧w'.cell? ⟨q,2,none⟩=some (.int .i64 x.n2)∧w'.cell? ⟨q,6,none⟩=some (.string (bs x.node))∧w'.cell? ⟨wr.heap.size,0,none⟩=some (.int .i64 v.u0)∧w'.cell? ⟨wr.heap.size,1,none⟩=some (.int .i64 v.u1)∧w'.cell? ⟨wr.heap.size,2,none⟩=some (.int .i64 v.u2)∧w'.cell? ⟨wr.heap.size,3,none⟩=some (.slice ao2 v.ptrs.length cap2)) (go_keep)
              (first
                | (refine qeo rfl _ _ 186 rfl _ _ rfl rfl (by exact e1) ?_)
                | (go_at_call 89;refine (cS _).mono ?_;rintro e ws ⟨rfl,hbs⟩;have q1:=fun o=>hbs.cell (p:=⟨q,o,none⟩) zqA;have v1:=fun o=>hbs.cell (p:=⟨wr.heap.size,o,none⟩) zvA;have zq1:q < ws.heap.size:=Nat.lt_of_lt_of_le zqA hbs.size;have zv1:wr.heap.size < ws.heap.size:=Nat.lt_of_lt_of_le zvA hbs.size;obtain ⟨ao',cap',w6,w7,e1,e2,k6,k7,hfin⟩:=lr ws (qj hb5A hbs) (wr.heap.size+1) ((hbs.cell (p:=⟨wr.heap.size+1,0,none⟩) zbA).trans hcA);have HFin:Hid (_∧_):=hfin;have q6:=fun o=>k6.cell (p:=⟨q,o,none⟩) zq1 nq;have v6:=fun o=>k6.cell (p:=⟨wr.heap.size,o,none⟩) zv1 nv;have q7:=fun o=>k7.cell (p:=⟨q,o,none⟩) (Nat.lt_of_lt_of_le zq1 k6.size) nqb;have v7:=fun o=>k7.cell (p:=⟨wr.heap.size,o,none⟩) (Nat.lt_of_lt_of_le zv1 k6.size) nvb;clear hfin k6 k7 hbs)
                | (go_at_call 89;refine (cS _).mono ?_;rintro e ws ⟨rfl,hbs⟩;have q1:=fun o=>hbs.cell (p:=⟨q,o,none⟩) zqB;have v1:=fun o=>hbs.cell (p:=⟨wr.heap.size,o,none⟩) zvB;have zq1:q < ws.heap.size:=Nat.lt_of_lt_of_le zqB hbs.size;have zv1:wr.heap.size < ws.heap.size:=Nat.lt_of_lt_of_le zvB hbs.size;have qa:=fun o=>(qi ws (.cells #[.pointer (some ⟨q,0,none⟩)] 129)).cell (p:=⟨q,o,none⟩) zq1;have va:=fun o=>(qi ws (.cells #[.pointer (some ⟨q,0,none⟩)] 129)).cell (p:=⟨wr.heap.size,o,none⟩) zv1;have zqa:q < (ws.alloc (.cells #[.pointer (some ⟨q,0,none⟩)] 129)).heap.size:=Nat.lt_of_lt_of_le zq1 (qi ws (.cells #[.pointer (some ⟨q,0,none⟩)] 129)).size;have zva:wr.heap.size < (ws.alloc (.cells #[.pointer (some ⟨q,0,none⟩)] 129)).heap.size:=Nat.lt_of_lt_of_le zv1 (qi ws (.cells #[.pointer (some ⟨q,0,none⟩)] 129)).size;obtain ⟨ao',cap',w6,w7,e1,e2,k6,k7,hfin⟩:=lr (ws.alloc (.cells #[.pointer (some ⟨q,0,none⟩)] 129)) (qj (qj hb5B hbs) (qi ws (.cells #[.pointer (some ⟨q,0,none⟩)] 129))) ws.heap.size (by rw [ql (qm ws (.cells #[.pointer (some ⟨q,0,none⟩)] 129))];rfl);have HFin:Hid (_∧_):=hfin;have q6:=fun o=>k6.cell (p:=⟨q,o,none⟩) zqa nq;have v6:=fun o=>k6.cell (p:=⟨wr.heap.size,o,none⟩) zva nv;have q7:=fun o=>k7.cell (p:=⟨q,o,none⟩) (Nat.lt_of_lt_of_le zqa k6.size) nqb;have v7:=fun o=>k7.cell (p:=⟨wr.heap.size,o,none⟩) (Nat.lt_of_lt_of_le zva k6.size) nvb;clear hfin k6 k7 hbs))
            all_goals go_wp2
            all_goals go_roundw
            all_goals first
              | (obtain ⟨hb7,AN7,m7,l7,r7,n7⟩:=HFin.out;exact ⟨k+1,AN7,by omega,by go_num,hb7,m7,l7,r7,n7⟩)
              | (simp [intOf];omega)
        · have hx7:=Hi.cV
          have c7:=mapsCopy_any wr g.bv w.heap.size (mapV qba.val g.VV) (mapV qba.val AN) Hi.vw hMi (by omega) (fun kb v h=>by
            rw [qz] at h
            cases hg:getL AN kb with
            | none=>rw [hg] at h;cases h
            | some u=>
              rw [hg] at h
              obtain ⟨ao',cap',hrow'⟩:=qv (HLi.out.row kb u hg).1
              refine ⟨(u.u0,u.u1,u.u2,ao',u.ptrs.length,cap'),?_⟩
              rw [← Option.some.inj h,qba.val,hrow']
              rfl) (by rw [qw,qw];show g.VV.length+AN.length < 100000;omega)
          have hkn:k=g.PP.length:=by omega
          subst hkn
          have HB:Hid (Below w.heap.size w wr):=hbi
          clear hMi Hi hbi
          go_wp2_with (go_at_call 95;refine c7.mono ?_;rintro e w8 ⟨rfl,L,hL8,hk8,hO8⟩)
          go_end0
          refine ⟨rfl,w,wr,AN,L,HH.out,K0.out,HB.out,hk8,HLi.out,hL8,fun k=> ?_⟩
          rw [hO8,qz,qz]
    · intro x c kb w3 hkey htd hget hrg3 hlt3 hk3 hs3 hen
      obtain ⟨e3,hkl⟩:=qgh hkey
      simp only [Value.string.injEq] at e3
      obtain ⟨y,rfl⟩: ∃ y,kb=ky y:=⟨bs kb,(qga kb).symm⟩
      rw [bs_ky] at e3
      subst e3
      have hys:x.size≤maxLen:=by rw [← qdu];exact hkl
      have hsN:(getL g.NN (ky x)).isSome=true:=by
        rw [qz] at hget
        cases hgn:getL g.NN (ky x)
        · rw [hgn] at hget;cases hget
        · rfl
      have hb3:Below w.heap.size w w3:=qel hbw hk3 (by omega)
      have H3:=HH.out.below hb3
      have hM3:=hM.kept hk3 (by omega)
      have hx7:=H3.cV
      have mvw:=H3.vw
      have Hlt:Hid (w3.rangeLeft g.bn (w.heap.size+1) < wr.rangeLeft g.bn (w.heap.size+1)):=hlt3
      have hM4:=fun o=>hM3.kept ((Kept.refl qq w3).alloc o) id
      have hll:(mapV qba.val AN).length < maxLen:=by rw [qw];unfold maxLen;omega
      clear hget htd hkey hkl hlt3 hs3 hrg hM hk3
      cases hV:getL g.VV (ky x) with
      | none=>
        have hV':getL (mapV qba.val g.VV) (ky x)=none:=by rw [qz,hV];rfl
        have HC:Hid (cond g (ky x)=true):=by show cond _ _=true;unfold cond;rw [show (g:Gh).NN=g.NN from rfl,hsN,hV];rfl
        clear hV H3
        go_wp2_with (first
          | (at_lookup;refine qbx _ rfl _ _ 115 rfl 9 188 strK Tryz.underlying115 (qfn _) g.bv _ rfl mvw _ (ky x) rfl (keyS x hys) hV' ?_)
          | (at_mapUpdate;refine wpL_store _ rfl _ _ _ 115 rfl 9 188 strK Tryz.underlying115 w.heap.size _ rfl (by exact hM4 _) hll _ _ (ky x) rfl rfl (keyS x hys) ?_;intro w5 hm5 ht5;have hk5:=Kept.turned ht5;go_frame))
        have hm5':qai Tryz.prog w5 9 w.heap.size (mapV qba.val (putL AN (ky x) qfm)):=by rw [← qds];exact hm5
        have hk35:Kept (fun b=>b=w.heap.size) w3 w5:=((Kept.refl _ w3).alloc _).trans hk5 (fun i _ e=>e)
        go_roundw
        case rel=>
          refine ⟨_,_,hrg3.kept hk35 (by omega) (by omega),hm5',qel hb3 hk35 (Nat.le_refl _),fun k=> ?_,?_⟩
          · by_cases e:k=ky x
            · subst e
              rw [qap,HC.out]
              simp
            · rw [qaj _ _ e,HO.out]
              have:(k==ky x)=false:=by simpa using e
              simp [this]
          · rw [qal hrg3 hk35 (by omega) (by omega)]
            have h1:=Hlt.out
            refine Nat.le_trans (Nat.add_le_add_right (qdj AN (ky x) _) _) ?_
            omega
        case measure=>rw [qal hrg3 hk35 (by omega) (by omega)];exact Hlt.out
      | some v=>
        obtain ⟨ao,cap,hrow⟩:=qv (H3.vv _ (qar hV)).1
        have hV':getL (mapV qba.val g.VV) (ky x)=some (.agg #[.int .i64 v.u0,.int .i64 v.u1,.int .i64 v.u2,.slice ao v.ptrs.length cap]):=by rw [qz,hV];show some (qba.val v)=_;rw [qba.val,hrow]
        have HC:Hid (cond g (ky x)=false):=by show cond _ _=false;unfold cond;rw [hV];simp
        clear hV H3 hrow
        go_wp2_with (at_lookup;refine qbw _ rfl _ _ 115 rfl 9 188 strK Tryz.underlying115 (qfn _) g.bv _ rfl mvw _ (ky x) rfl (keyS x hys) _ hV' ?_)
        have hba:=qi w3 (.cells #[.int .i64 v.u0,.int .i64 v.u1,.int .i64 v.u2,.slice ao v.ptrs.length cap] 188)
        go_roundw
        case rel=>
          refine ⟨_,AN,hrg3.kept (Kept.of_below (F:=qq) hba) id id,hM3.kept (Kept.of_below (F:=qq) hba) id,qj hb3 hba,fun k=> ?_,?_⟩
          · rw [HO.out]
            by_cases e:k=ky x
            · subst e
              rw [HC.out]
              rfl
            · have:(k==ky x)=false:=by simpa using e
              simp [this]
          · rw [qal hrg3 (Kept.of_below (F:=qq) hba) id id]
            have h1:=Hlt.out
            omega
        case measure=>rw [qal hrg3 (Kept.of_below (F:=qq) hba) id id];exact Hlt.out
end
end Go.Proofs.YtchddaafibjmgaaGreat
