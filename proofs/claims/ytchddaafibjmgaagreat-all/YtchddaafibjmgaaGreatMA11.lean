import Derived.Test.YtchddaafibjmgaaGreatMA8
import Derived.Test.YtchddaafibjmgaaGreatMA9
import Derived.Test.YtchddaafibjmgaaGreatMA10
set_option maxRecDepth 100000
set_option maxHeartbeats 20000000
namespace Go.Proofs.YtchddaafibjmgaaGreat
section
open Go.RowKit Go.Maps
section
variable {F:Nat→Prop} {w:World} {Y:Nat} {hd:Head} {g:Gh}
theorem reason_any (H:BMem F w Y hd g) (hfull:Full g) (hS:qg7 g) (s:ByteArray) (hs:s.size≤maxLen) (x:Value×qbb) (hx:getL g.NN (ky s)=some x) (p:PodD) (hok:p.ok w) (hpn: ∀ y∈ [p.n0,p.n1,p.n2],0≤y∧y≤1099511627776):
    Calls Tryz.prog 97 #[.pointer (some ⟨Y,0,none⟩),.string s,.agg p.cells] w fun e w'=>e= .returned (.int .i64 (whyG g (ky s) x.2 (qt g.pods (ky s)) p.val))∧Below w.heap.size w w':=by
  cases h1:qbg x.2.r0 x.2.r1 x.2.r2 (qt g.pods (ky s)).1 (qt g.pods (ky s)).2.1 (qt g.pods (ky s)).2.2 p.n0 p.n1 p.n2
  · cases h2:(!(p.port==0)&&(qat g (ky s)).any fun q=>q.2.port==p.port)
    · cases h3:qae p.select.L x.2.labels
      · rw [show whyG g (ky s) x.2 (qt g.pods (ky s)) p.val=3 from by unfold whyG PodD.val;simp only [h1,h2,h3];rfl];exact reason3 H hfull hS s hs x hx p hok hpn h1 h2 h3
      · cases h4:qae x.2.taints p.bears.L
        · rw [show whyG g (ky s) x.2 (qt g.pods (ky s)) p.val=4 from by unfold whyG PodD.val;simp only [h1,h2,h3,h4];rfl];exact reason4 H hfull hS s hs x hx p hok hpn h1 h2 h3 h4
        · by_cases hne:0 < p.near.L.length
          · have hd':decide (0 < p.near.L.length)=true:=by simpa using hne
            cases h5:qbm g (ky s) (fun q=>qae p.near.L q.2.labels)
            · rw [show whyG g (ky s) x.2 (qt g.pods (ky s)) p.val=5 from by unfold whyG PodD.val;simp only [h1,h2,h3,h4,h5,hd'];rfl];exact reason5 H hfull hS s hs x hx p hok hpn h1 h2 h3 h4 h5 hne
            · cases h6:qbm g (ky s) (fun q=>qbv p.apart.L q.2.labels || qbv q.2.apart p.labels.L)
              · rw [show whyG g (ky s) x.2 (qt g.pods (ky s)) p.val=0 from by unfold whyG PodD.val;simp only [h1,h2,h3,h4,h5,h6,hd'];rfl];exact reason0 H hfull hS s hs x hx p hok hpn h1 h2 h3 h4 h5 h6 hne
              · rw [show whyG g (ky s) x.2 (qt g.pods (ky s)) p.val=6 from by unfold whyG PodD.val;simp only [h1,h2,h3,h4,h5,h6,hd'];rfl];exact reason6 H hfull hS s hs x hx p hok hpn h1 h2 h3 h4 h5 h6 hne
          · have hd':decide (0 < p.near.L.length)=false:=by simpa using hne
            cases h6:qbm g (ky s) (fun q=>qbv p.apart.L q.2.labels || qbv q.2.apart p.labels.L)
            · rw [show whyG g (ky s) x.2 (qt g.pods (ky s)) p.val=0 from by unfold whyG PodD.val;simp only [h1,h2,h3,h4,h6,hd'];rfl];exact reason0n H hfull hS s hs x hx p hok hpn h1 h2 h3 h4 h6 (by omega)
            · rw [show whyG g (ky s) x.2 (qt g.pods (ky s)) p.val=6 from by unfold whyG PodD.val;simp only [h1,h2,h3,h4,h6,hd'];rfl];exact reason6n H hfull hS s hs x hx p hok hpn h1 h2 h3 h4 h6 (by omega)
    · rw [show whyG g (ky s) x.2 (qt g.pods (ky s)) p.val=2 from by unfold whyG PodD.val;simp only [h1,h2];rfl];exact reason2 H hfull hS s hs x hx p hok hpn h1 h2
  · rw [show whyG g (ky s) x.2 (qt g.pods (ky s)) p.val=1 from by unfold whyG PodD.val;simp only [h1];rfl];exact reason1 H hfull hS s hs x hx p hok hpn h1
def answerG (g:Gh) (k:qn) (n:qbb) (p:PodV):Int×Int:=
  if whyG g k n (qt g.pods k) p=0 then (0,scoreI n.r0 n.r1 n.r2 (qt g.pods k).1 (qt g.pods k).2.1 (qt g.pods k).2.2 p.n0 p.n1 p.n2) else (whyG g k n (qt g.pods k) p,0)
theorem judge_any (H:BMem F w Y hd g) (hfull:Full g) (hS:qg7 g) (s:ByteArray) (hs:s.size≤maxLen) (x:Value×qbb) (hx:getL g.NN (ky s)=some x) (p:PodD) (hok:p.ok w) (hpn: ∀ y∈ [p.n0,p.n1,p.n2],0≤y∧y≤1099511627776):
    Calls Tryz.prog 86 #[.pointer (some ⟨Y,0,none⟩),.string s,.agg p.cells] w fun e w'=>e= .returned (ansV (answerG g (ky s) x.2 p.val))∧Below w.heap.size w w':=by
  have hY:=H.lt Y H.fy
  have hgx:=qar hx
  have hW0:Below w.heap.size w ((w.alloc (.cells #[.string p.name,.int .i64 p.n0,.int .i64 p.n1,.int .i64 p.n2,.int .i64 p.port,.slice p.labels.a p.labels.L.length p.labels.cap,.slice p.select.a p.select.L.length p.select.cap,.slice p.bears.a p.bears.L.length p.bears.cap,.slice p.near.a p.near.L.length p.near.cap,.slice p.apart.a p.apart.L.length p.apart.cap] 77)).alloc (.cells #[.int .i64 0,.int .i64 0] 178)):=qj (qi _ _) (qi _ _)
  have hzA:w.heap.size < ((w.alloc (.cells #[.string p.name,.int .i64 p.n0,.int .i64 p.n1,.int .i64 p.n2,.int .i64 p.port,.slice p.labels.a p.labels.L.length p.labels.cap,.slice p.select.a p.select.L.length p.select.cap,.slice p.bears.a p.bears.L.length p.bears.cap,.slice p.near.a p.near.L.length p.near.cap,.slice p.apart.a p.apart.L.length p.apart.cap] 77)).alloc (.cells #[.int .i64 0,.int .i64 0] 178)).heap.size:=by simp;omega
  have hzB:w.heap.size+1 < ((w.alloc (.cells #[.string p.name,.int .i64 p.n0,.int .i64 p.n1,.int .i64 p.n2,.int .i64 p.port,.slice p.labels.a p.labels.L.length p.labels.cap,.slice p.select.a p.select.L.length p.select.cap,.slice p.bears.a p.bears.L.length p.bears.cap,.slice p.near.a p.near.L.length p.near.cap,.slice p.apart.a p.apart.L.length p.apart.cap] 77)).alloc (.cells #[.int .i64 0,.int .i64 0] 178)).heap.size:=by simp
  have c1:=reason_any (H.below hW0) hfull hS s hs x hx p (hok.below hW0) hpn
  obtain ⟨l,t,u0,u1,u2,ao,cap,el,et,ol,ot,hu,hrow,lkN,lkV⟩:=H.lookNV hfull s hs hx
  have hub:=hS.used (ky s)
  have hrm:=hS.room _ hgx
  have HA:Hid (answerG g (ky s) x.2 p.val=if whyG g (ky s) x.2 (qt g.pods (ky s)) p.val=0 then (0,scoreI x.2.r0 x.2.r1 x.2.r2 (qt g.pods (ky s)).1 (qt g.pods (ky s)).2.1 (qt g.pods (ky s)).2.2 p.n0 p.n1 p.n2) else (whyG g (ky s) x.2 (qt g.pods (ky s)) p.val,0)):=rfl
  rw [← hu] at hub
  dsimp only at hub hrm
  have cS:=fun W=>pscore_any x.2.r0 x.2.r1 x.2.r2 u0 u1 u2 p.n0 p.n1 p.n2 W (by
    simp only [List.mem_cons,List.not_mem_nil,or_false,forall_eq_or_imp,forall_eq] at hrm hpn ⊢
    omega) hub
  generalize whyG g (ky s) x.2 (qt g.pods (ky s)) p.val=R at *
  have Hu:Hid ((u0,u1,u2)=qt g.pods (ky s)):=hu
  have yc:=fun W (hb:Below w.heap.size w W)=>(H.below hb).cN
  have yv:=fun W (hb:Below w.heap.size w W)=>(H.below hb).cV
  unfold PodD.cells Lst.val at c1
  unfold PodD.cells Lst.val
  have fN:=fieldN0
  have fV:=fieldV0
  clear H hfull hS hx hok hpn hub hrm hrow ol ot el et hgx hu
  by_cases h0:R=0
  · subst h0
    go_enter Tryz.func86,Tryz.ntmps86
    go_wp2_with (go_at_call 97;refine c1.mono ?_;rintro e w1 ⟨rfl,hb1⟩;have a1:=fun o=>hb1.cell (p:=⟨w.heap.size,o,none⟩) hzA;have b1:=fun o=>hb1.cell (p:=⟨w.heap.size+1,o,none⟩) hzB;have r1:=fun o=>hb1.frozen (p:=⟨w.heap.size+1,o,none⟩) hzB;have hW1:=qj hW0 hb1)
    have y1:=yc w1 hW1
    have v1:=yv w1 hW1
    have n1:=lkN w1.drew hW1.drew
    have m1:=lkV w1.drew hW1.drew
    have zA1:w.heap.size < w1.drew.heap.size:=Nat.lt_of_lt_of_le hzA hb1.size
    have zB1:w.heap.size+1 < w1.drew.heap.size:=Nat.lt_of_lt_of_le hzB hb1.size
    have hne1: ¬ Y=w.heap.size+1:=by omega
    have hne2: ¬ w.heap.size+1=Y:=by omega
    have zY1:Y < w1.drew.heap.size:=Nat.lt_of_lt_of_le (by omega) zA1
    go_region_held3 (fun w'=>w'.cell? ⟨w.heap.size,1,none⟩=some (.int .i64 p.n0)∧w'.cell? ⟨w.heap.size,2,none⟩=some (.int .i64 p.n1)∧w'.cell? ⟨w.heap.size,3,none⟩=some (.int .i64 p.n2)∧w'.cell? ⟨Y,4,none⟩=some (.map (some g.bn))∧w'.cell? ⟨Y,7,none⟩=some (.map (some g.bv))) (go_keep)
      (first
        | (go_at_call 98;refine (cS _).mono ?_;rintro e w2 ⟨rfl,hb2⟩;have a2:=fun o=>hb2.cell (p:=⟨w.heap.size,o,none⟩) zA1;have b2:=fun o=>hb2.cell (p:=⟨w.heap.size+1,o,none⟩) zB1;have r2:=fun o=>hb2.frozen (p:=⟨w.heap.size+1,o,none⟩) zB1;have y2:=fun o=>hb2.cell (p:=⟨Y,o,none⟩) zY1))
    all_goals go_wp2
    all_goals refine bodyPost_ret (v:= .agg #[.int .i64 0,.int .i64 (scoreI x.2.r0 x.2.r1 x.2.r2 u0 u1 u2 p.n0 p.n1 p.n2)]) (by simp [results,Tryz.results86,go_sem,b2,b1]) rfl ?_
    all_goals rw [HA.out,if_pos trivial,← Hu.out]
    all_goals exact ⟨rfl,((qj (qj hW1 (Below.refl _ _).drew) hb2).setCell (p:=⟨w.heap.size+1,0,none⟩) (by simp) _).setCell (p:=⟨w.heap.size+1,1,none⟩) (by simp) _⟩
  · have h0':(R==0)=false:=by simpa using h0
    have h0'':(R != 0)=true:=by simpa using h0
    have HA':Hid (answerG g (ky s) x.2 p.val=(R,0)):=by show answerG _ _ _ _=_;rw [HA.out,if_neg h0]
    clear h0
    go_enter Tryz.func86,Tryz.ntmps86
    go_wp2_with (go_at_call 97;refine c1.mono ?_;rintro e w1 ⟨rfl,hb1⟩;have a1:=fun o=>hb1.cell (p:=⟨w.heap.size,o,none⟩) hzA;have b1:=fun o=>hb1.cell (p:=⟨w.heap.size+1,o,none⟩) hzB;have r1:=fun o=>hb1.frozen (p:=⟨w.heap.size+1,o,none⟩) hzB;have hW1:=qj hW0 hb1)
    refine bodyPost_ret (v:= .agg #[.int .i64 R,.int .i64 0]) (by simp [results,Tryz.results86,go_sem,b1]) rfl ?_
    rw [HA'.out]
    exact ⟨rfl,(hW1.setCell (p:=⟨w.heap.size+1,0,none⟩) (by simp) _).setCell (p:=⟨w.heap.size+1,1,none⟩) (by simp) _⟩
end
end
section
open Go.RowKit Go.Maps
section
variable {P:Program} (w:World) {ops:Array Oper} {rest:List Oper} {o:Oper} {a:Act} {Q:Exit→Act→World→Prop}
theorem qg9 (hg:o.guard=none) (m:Operand) (t:TypeId) (hop:o.op=Op.range t m) (k e:TypeId) (K:Keyed P k) (ht:P.underlying t=some (.map k e)) (b:Nat) (L:List (qn×Value))
    (hm:a.eval m= .map (some b)) (hown:qai P w k b L)
    (hK: ∀ w',qdx P w' k b w.heap.size L (fun x=>(getL L x).isSome)→w'.rangeLeft b w.heap.size=L.length→Below w.heap.size w w'→w'.heap.size=w.heap.size+1→wpList P ops Q rest (a.put o.dst (.pointer (some ⟨w.heap.size,0,none⟩))) w'):
    wpList P ops Q (o::rest) a w:=
  wpList_range_own w hg m t hop k e K ht qct b L.length (qgw L) hm hown fun w' h1 h2 h3=>
    hK w' ⟨_,_,_,h1,fun x=>qff L x⟩ (by rw [h1.left_eq,qdy]) ⟨h2.os,h2.tape,h2.output,h2.size,fun i hi=>h2.block i hi (by simp)⟩ h3
end
def viewShape (c:Int×Int×Int×Option Addr×Nat×Nat):Value:= .agg #[.int .i64 c.1,.int .i64 c.2.1,.int .i64 c.2.2.1,.slice c.2.2.2.1 c.2.2.2.2.1 c.2.2.2.2.2]
def over (Ls Ld:List (qn×Value)) (todo:qn→Bool) (k:qn):Option Value:=if (getL Ls k).isSome&& !todo k then getL Ls k else getL Ld k
theorem mapsCopy_any (w:World) (bd bs:Nat) (Ld Ls:List (qn×Value)) (hd:qai Tryz.prog w 9 bd Ld) (hs:qai Tryz.prog w 9 bs Ls) (hne:bd≠bs) (hsh: ∀ kb v,getL Ls kb=some v→ ∃ c,v=viewShape c) (hl:Ld.length+Ls.length < 100000):
    Calls Tryz.prog 95 #[.map (some bd),.map (some bs)] w fun e w'=>e= .returned (.tuple #[])∧ ∃ L,qai Tryz.prog w' 9 bd L∧Kept (fun b=>b=bd) w w'∧ ∀ k,getL L k=(getL Ls k).orElse fun _=>getL Ld k:=by
  have Hd:Hid (qai Tryz.prog w 9 bd Ld):=hd
  have hdl:=hd.lt
  have hsl:=hs.lt
  clear hd
  go_enter Tryz.func95,Tryz.ntmps95
  go_wp2_with (at_range;refine qg9 _ rfl _ 115 rfl 9 188 strK Tryz.underlying115 bs _ rfl hs ?_;intro w2 hr2 hn2 hb2 hs2)
  have K2:Hid (Kept (fun b=>b=bd) w w2):=Kept.of_below hb2
  have M2:Hid (qai Tryz.prog w2 9 bd Ld):=Hd.out.kept (Kept.of_below (F:=qq) hb2) id
  have N2:Hid (w2.rangeLeft bs w.heap.size=Ls.length):=hn2
  clear hs2 hb2 hn2 hs
  go_frame
  go_loopw [4] (fun _ wr=> ∃ todo L,qdx Tryz.prog wr 9 bs w.heap.size Ls todo∧qai Tryz.prog wr 9 bd L∧Kept (fun b=>b=bd) w wr∧(∀ k,getL L k=over Ls Ld todo k)∧L.length+wr.rangeLeft bs w.heap.size≤Ld.length+Ls.length) (fun _ wr=>wr.rangeLeft bs w.heap.size)
  case atStart=>
    refine ⟨_,Ld,hr2,M2.out,K2.out,fun k=> ?_,by rw [N2.out];exact Nat.le_refl _⟩
    simp [over]
    intro h1 h2
    rw [h2] at h1
    cases h1
  case round=>
    clear hr2 K2 M2 N2
    obtain ⟨todo,L,hrg,hM,hK,hO,hN⟩:=hrel
    have HO:Hid (∀ k,getL L k=over Ls Ld todo k):=hO
    have HK:Hid (Kept (fun b=>b=bd) w wr):=hK
    clear hO hK
    go_wp2_with (at_next;refine qe5 _ rfl _ rfl 9 strK Value.string viewShape bs w.heap.size _ todo (fun _ _=>strInv) hsh rfl hrg ?_ ?_)
    · intro hl0
      go_wp2
      go_end0
      refine ⟨rfl,L,hM,HK.out,fun k=> ?_⟩
      rw [HO.out,over,hl0]
      cases getL Ls k<;>rfl
    · intro x u0 u1 u2 ao nn cap kb w3 hkey htd hget hrg3 hlt3 hk3 hs3 hen
      obtain ⟨e3,hkl⟩:=qgh hkey
      simp only [Value.string.injEq] at e3
      obtain ⟨y,rfl⟩: ∃ y,kb=ky y:=⟨Go.Proofs.YtchddaafibjmgaaGreat.bs kb,(qga kb).symm⟩
      rw [bs_ky] at e3
      subst e3
      have hys:x.size≤maxLen:=by rw [← qdu];exact hkl
      have hM3:=hM.kept hk3 (by omega)
      have HK3:Hid (Kept (fun b=>b=bd) w w3):=HK.out.trans hk3 (fun i hi e=>by omega)
      have Hlt:Hid (w3.rangeLeft bs w.heap.size < wr.rangeLeft bs w.heap.size):=hlt3
      have hN3:L.length < maxLen:=by unfold maxLen;omega
      have Hget:Hid (getL Ls (ky x)=some (viewShape (u0,u1,u2,ao,nn,cap))):=hget
      unfold viewShape at hen
      unfold viewShape
      have hM4:=fun o=>hM3.kept ((Kept.refl qq w3).alloc o) id
      clear hget htd hkey hkl hlt3 hs3 hrg hM hk3
      go_wp2_with (at_mapUpdate;refine wpL_store _ rfl _ _ _ 115 rfl 9 188 strK Tryz.underlying115 bd L rfl (by exact hM4 _) hN3 _ _ (ky x) rfl rfl (keyS x hys) ?_;intro w5 hm5 ht5;have hk5:=Kept.turned ht5;go_frame)
      have hk35:Kept (fun b=>b=bd) w3 w5:=((Kept.refl _ w3).alloc _).trans hk5 (fun i _ e=>e)
      have hrS: ¬ w.heap.size=bd:=by omega
      go_roundw
      case rel=>
        refine ⟨_,_,hrg3.kept hk35 (Ne.symm hne) hrS,hm5,HK3.out.trans hk35 (fun i _ e=>e),fun k=> ?_,?_⟩
        · by_cases e:k=ky x
          · subst e
            rw [qap,over,Hget.out,if_pos (by simp)]
            rfl
          · rw [qaj _ _ e,HO.out,over,over]
            have:(k==ky x)=false:=by simpa using e
            simp [this]
        · rw [qal hrg3 hk35 (Ne.symm hne) hrS]
          have h1:=Hlt.out
          refine Nat.le_trans (Nat.add_le_add_right (qdj L (ky x) _) _) ?_
          omega
      case measure=>rw [qal hrg3 hk35 (Ne.symm hne) hrS];exact Hlt.out
end
section
open Go.RowKit Go.Maps Go.ChangeMaps Go.MapKept
theorem Tryz.infoPR:(Tryz.prog.info? 129).map (fun i=>(i.zero,i.size,i.bytes))=some (some (.pointer none),1,8):=by kernel_rfl
theorem qai.clearAll {P:Program} {w:World} {k t e:TypeId} {b:Nat} {L:List (qn×Value)} (h:qai P w k b L) (ht:P.underlying t=some (.map k e)):
    ∃ w',(∀ ty,(Builtin.clear_ #[t] ty #[.map (some b)]).run P w= .ok (.tuple #[]) w')∧qai P w' k b []∧w.mapTurned w' b:=by
  obtain ⟨es,clock,hb,F,hs,hD⟩:=h
  refine ⟨setBlock w b (.map #[] clock),fun ty=> ?_,⟨#[],clock,heap_setBlock_same hb _,⟨by simp,stamped_empty clock,by simp⟩,Nat.le_refl _,rfl⟩,⟨es,clock,#[],clock,hb,rfl⟩⟩
  simp [Builtin.clear_,run_underlying ht,MapKept.run_getObj_map hb,MapKept.run_setObj_map _ hb,Result.andThen,setBlock]
def qfm:qba:=⟨0,0,0,.slice none 0 0,[]⟩
def cond (g:Gh) (k:qn):Bool:=(getL g.NN k).isSome&&(getL g.VV k).isNone
theorem qha (l:List (qn×qag)) (p:qn×qag) (k:qn):qt (l++ [p]) k=if p.2.node==k then ((qt l k).1+p.2.n0,(qt l k).2.1+p.2.n1,(qt l k).2.2+p.2.n2) else qt l k:=by
  induction l with
  | nil=>simp [qt]
  | cons q r ih=>
    simp only [List.cons_append,qt,ih]
    cases (q.2.node==k)<;>cases (p.2.node==k)<;>simp
    omega
structure qch (B:Nat) (w:World) (g:Gh) (AN:List (qn×qba)) (i:Nat):Prop where
  off: ∀ k,cond g k=false→getL AN k=none
  on: ∀ k,cond g k=true→ ∃ v,getL AN k=some v
  ptrs: ∀ k v,getL AN k=some v→v.ptrs=((g.PP.take i).filter fun p=>p.2.2.node==k).map (·.2.1)
  used: ∀ k v,getL AN k=some v→(v.u0,v.u1,v.u2)=qt (mapV (·.2) (g.PP.take i)) k
  row: ∀ k v,getL AN k=some v→w.ownsRow 0 129 1 v.row v.ptrs.length (v.ptrs.map ptrV)∧ ∀ b,v.row.ownBlock=some b→B≤b
  apart: ∀ k k' v v',getL AN k=some v→getL AN k'=some v'→k≠k'→ ∀ b,v.row.ownBlock=some b→v'.row.ownBlock≠some b
theorem qch.start {B:Nat} {w:World} {g:Gh} {AN:List (qn×qba)} (h: ∀ k,getL AN k=if cond g k then some qfm else none):qch B w g AN 0:=by
  have hv: ∀ k v,getL AN k=some v→v=qfm:=fun k v hk=>by
    rw [h] at hk
    split at hk
    · exact (Option.some.inj hk).symm
    · cases hk
  refine ⟨fun k hc=>by rw [h,hc];rfl,fun k hc=>⟨qfm,by rw [h,hc];rfl⟩,fun k v hk=> ?_,fun k v hk=> ?_,fun k v hk=> ?_,fun k k' v v' hk _ _ b hb=> ?_⟩
  · rw [hv k v hk];rfl
  · rw [hv k v hk];rfl
  · rw [hv k v hk]
    exact ⟨World.ownsRow_nil _ _ _ _,fun b hb=>by simp [qfm,Value.ownBlock] at hb⟩
  · rw [hv k v hk] at hb
    simp [qfm,Value.ownBlock] at hb
theorem qch.kept {B:Nat} {w w':World} {g:Gh} {AN:List (qn×qba)} {i:Nat} {G:Nat→Prop} (h:qch B w g AN i) (hk:Kept G w w') (hG: ∀ k v,getL AN k=some v→ ∀ b,v.row.ownBlock=some b→ ¬ G b):qch B w' g AN i:=
  ⟨h.off,h.on,h.ptrs,h.used,fun k v hv=>⟨hk.ownsRow (h.row k v hv).1 fun b hb=>hG k v hv b hb,(h.row k v hv).2⟩,h.apart⟩
theorem qch.skip {B:Nat} {w:World} {g:Gh} {AN:List (qn×qba)} {i:Nat} (h:qch B w g AN i) (hi:i < g.PP.length) (hc:cond g g.PP[i].2.2.node=false):qch B w g AN (i+1):=by
  have hne: ∀ k v,getL AN k=some v→(g.PP[i].2.2.node==k)=false:=fun k v hv=>by
    have:g.PP[i].2.2.node≠k:=fun e=>by
      rw [e] at hc
      rw [h.off k hc] at hv
      cases hv
    simpa using this
  refine ⟨h.off,h.on,fun k v hv=> ?_,fun k v hv=> ?_,h.row,h.apart⟩
  · rw [h.ptrs k v hv,List.take_succ_eq_append_getElem hi,List.filter_append]
    simp [hne k v hv]
  · rw [h.used k v hv,List.take_succ_eq_append_getElem hi]
    have:mapV (·.2) (g.PP.take i++ [g.PP[i]])=mapV (·.2) (g.PP.take i)++ [(g.PP[i].1,g.PP[i].2.2)]:=by unfold mapV;rw [List.map_append];rfl
    rw [this,qha,hne k v hv]
    rfl
theorem qch.step {B:Nat} {w w':World} {g:Gh} {AN:List (qn×qba)} {i:Nat} (h:qch B w g AN i) (hi:i < g.PP.length) {v:qba} (hv:getL AN g.PP[i].2.2.node=some v) {row':Value} {G:Nat→Prop} (hk:Kept G w w') (hG: ∀ k u,getL AN k=some u→k≠g.PP[i].2.2.node→ ∀ b,u.row.ownBlock=some b→ ¬ G b)
    (hrow:w'.ownsRow 0 129 1 row' (v.ptrs.length+1) (v.ptrs.map ptrV++ [ptrV g.PP[i].2.1])) (hfr:row'.ownBlock=v.row.ownBlock∨ ∀ b,row'.ownBlock=some b→w.heap.size≤b) (hB:B≤w.heap.size):
    qch B w' g (putL AN g.PP[i].2.2.node ⟨v.u0+g.PP[i].2.2.n0,v.u1+g.PP[i].2.2.n1,v.u2+g.PP[i].2.2.n2,row',v.ptrs++ [g.PP[i].2.1]⟩) (i+1):=by
  have hcn:cond g g.PP[i].2.2.node=true:=by
    cases hc:cond g g.PP[i].2.2.node
    · rw [h.off _ hc] at hv;cases hv
    · rfl
  have hlt: ∀ k u,getL AN k=some u→ ∀ b,u.row.ownBlock=some b→b < w.heap.size:=fun k u hu b hb=>((h.row k u hu).1.lt b hb).2
  have hnew: ∀ k u,getL (putL AN g.PP[i].2.2.node ⟨v.u0+g.PP[i].2.2.n0,v.u1+g.PP[i].2.2.n1,v.u2+g.PP[i].2.2.n2,row',v.ptrs++ [g.PP[i].2.1]⟩) k=some u→
      (k=g.PP[i].2.2.node∧u=⟨v.u0+g.PP[i].2.2.n0,v.u1+g.PP[i].2.2.n1,v.u2+g.PP[i].2.2.n2,row',v.ptrs++ [g.PP[i].2.1]⟩)∨(k≠g.PP[i].2.2.node∧getL AN k=some u):=fun k u hu=>by
    by_cases e:k=g.PP[i].2.2.node
    · subst e
      rw [qap] at hu
      exact .inl ⟨rfl,(Option.some.inj hu).symm⟩
    · rw [qaj _ _ e] at hu
      exact .inr ⟨e,hu⟩
  have htk:mapV (·.2) (g.PP.take (i+1))=mapV (·.2) (g.PP.take i)++ [(g.PP[i].1,g.PP[i].2.2)]:=by
    rw [List.take_succ_eq_append_getElem hi]
    unfold mapV
    rw [List.map_append]
    rfl
  refine ⟨fun k hc=> ?_,fun k hc=> ?_,fun k u hu=> ?_,fun k u hu=> ?_,fun k u hu=> ?_,fun k k' u u' hu hu' hne b hb=> ?_⟩
  · by_cases e:k=g.PP[i].2.2.node
    · rw [e,hcn] at hc;cases hc
    · rw [qaj _ _ e];exact h.off k hc
  · by_cases e:k=g.PP[i].2.2.node
    · exact ⟨_,by rw [e,qap]⟩
    · obtain ⟨u,hu⟩:=h.on k hc
      exact ⟨u,by rw [qaj _ _ e];exact hu⟩
  · rcases hnew k u hu with ⟨rfl,rfl⟩| ⟨e,hu'⟩
    · dsimp only
      rw [h.ptrs _ _ hv,List.take_succ_eq_append_getElem hi,List.filter_append]
      simp
    · have:(g.PP[i].2.2.node==k)=false:=by simpa using Ne.symm e
      rw [h.ptrs _ _ hu',List.take_succ_eq_append_getElem hi,List.filter_append]
      simp [this]
  · rcases hnew k u hu with ⟨rfl,rfl⟩| ⟨e,hu'⟩
    · rw [htk,qha,← h.used _ _ hv]
      simp
    · have:(g.PP[i].2.2.node==k)=false:=by simpa using Ne.symm e
      rw [htk,qha,← h.used _ _ hu']
      simp [this]
  · rcases hnew k u hu with ⟨rfl,rfl⟩| ⟨e,hu'⟩
    · refine ⟨by simpa using hrow,fun b hb=> ?_⟩
      rcases hfr with hf| hf
      · exact (h.row _ _ hv).2 b (by rw [← hf];exact hb)
      · exact Nat.le_trans hB (hf b hb)
    · exact ⟨hk.ownsRow (h.row _ _ hu').1 fun b hb=>hG _ _ hu' e b hb,(h.row _ _ hu').2⟩
  · rcases hnew k u hu with ⟨rfl,rfl⟩| ⟨e,hu1⟩<;>rcases hnew k' u' hu' with ⟨rfl,rfl⟩| ⟨e',hu2⟩
    · exact absurd rfl hne
    · rcases hfr with hf| hf
      · exact h.apart _ _ _ _ hv hu2 hne b (by rw [← hf];exact hb)
      · intro h2
        have:=hf b hb
        have:=hlt _ _ hu2 b h2
        omega
    · rcases hfr with hf| hf
      · dsimp only
        rw [hf]
        exact h.apart _ _ _ _ hu1 hv hne b hb
      · intro h2
        have:=hf b h2
        have:=hlt _ _ hu1 b hb
        omega
    · exact h.apart _ _ _ _ hu1 hu2 hne b hb
theorem row_type {w:World} {e:TypeId} {v:Value} {n:Nat} {xs:List Value} (h:w.ownsRow 0 e 1 v n xs) {b:Nat} (hb:v.ownBlock=some b): ∃ cur,w.heap[b]? =some (.cells cur e (0,0)):=by
  rcases h.2 with ⟨hnil,_⟩| ⟨g,cap,cur,hv,_,hg,_⟩
  · rw [hnil] at hb;simp [Value.ownBlock] at hb
  · rw [hv] at hb
    simp [Value.ownBlock] at hb
    subst hb
    exact ⟨cur,hg⟩
theorem row_not_map {w:World} {e:TypeId} {v:Value} {n:Nat} {xs:List Value} (h:w.ownsRow 0 e 1 v n xs) {b:Nat} (hm: ∃ es c,w.heap[b]? =some (.map es c)):v.ownBlock≠some b:=fun hb=>by
  obtain ⟨cur,hc⟩:=row_type h hb
  obtain ⟨es,c,hm⟩:=hm
  rw [hc] at hm
  cases hm
theorem qhe {w:World} {e t:TypeId} {v:Value} {n:Nat} {xs:List Value} (h:w.ownsRow 0 e 1 v n xs) {b:Nat} {c:Array Value} {fr:Nat×Nat} (hm:w.heap[b]? =some (.cells c t fr)) (hne:e≠t):v.ownBlock≠some b:=fun hb=>by
  obtain ⟨cur,hc⟩:=row_type h hb
  rw [hc] at hm
  simp only [Option.some.injEq,Obj.cells.injEq] at hm
  exact hne hm.2.1
theorem look_step {Wp:World} {ao:Option Addr} {n cap ban:Nat} {xs:List Value} {LA:List (qn×Value)} (hown:Wp.ownsRow 0 129 1 (.slice ao n cap) n xs) (B q:Nat) (hcell:Wp.cell? ⟨B,0,none⟩=some (ptrV q)) (hm:qai Tryz.prog Wp 9 ban LA) (hn:n < 100000) (hL:LA.length < 100000)
    (node:ByteArray) (hnode:node.size≤maxLen) (a b c:Int):
    ∃ ao' cap' w6 w7,(Builtin.append_ #[186,186] 186 #[.slice ao n cap,.slice (some ⟨B,0,none⟩) 1 1]).run Tryz.prog Wp= .ok (.slice ao' (n+1) cap') w6∧
      (Instr.mapUpdate 115 (.map (some ban)) (.string node) (.agg #[.int .i64 a,.int .i64 b,.int .i64 c,.slice ao' (n+1) cap'])).run Tryz.prog w6= .ok () w7∧
      w7.ownsRow 0 129 1 (.slice ao' (n+1) cap') (n+1) (xs++ [ptrV q])∧qai Tryz.prog w7 9 ban (putL LA (ky node) (.agg #[.int .i64 a,.int .i64 b,.int .i64 c,.slice ao' (n+1) cap']))∧
      Kept (fun b=>(Value.slice ao n cap).ownBlock=some b) Wp w6∧Kept (fun b=>b=ban) w6 w7∧((Value.slice ao' (n+1) cap').ownBlock=(Value.slice ao n cap).ownBlock∨ ∀ b,(Value.slice ao' (n+1) cap').ownBlock=some b→Wp.heap.size≤b):=by
  obtain ⟨i0,hi,hz0,hz1,hz2⟩:=info_parts Tryz.infoPR
  obtain ⟨v',w6,hr,r1,r2,r3⟩:=qe8 (P:=Tryz.prog) Wp 186 186 129 i0 _ 1 8 Tryz.underlying186 hi hz0 hz1 hz2 rfl (by decide) _ n xs hown ⟨B,0,none⟩ 1 1 [ptrV q] rfl (fun j u hu=>by
    match j,hu with
    | 0,hu=>simp at hu;subst hu;exact hcell
    | j+1,hu=>simp at hu) (by intro u hu;simp at hu;subst hu;rfl) (by unfold maxLen;omega) (by omega)
  obtain ⟨ao',cap',rfl⟩:=qv r1
  have hk6:Kept (fun b=>(Value.slice ao n cap).ownBlock=some b) Wp w6:=(Kept.refl _ Wp).grown r2 fun k hk _=>hk
  have hmne: ¬ (Value.slice ao n cap).ownBlock=some ban:=fun e=>by
    rcases hown.2 with ⟨hnil,_⟩| ⟨g,cap2,cur,hv,_,hg,_⟩
    · rw [hnil] at e;simp [Value.ownBlock] at e
    · rw [hv] at e
      simp [Value.ownBlock] at e
      obtain ⟨es,ck,hmm⟩:=hm.isMap
      rw [e,hmm] at hg
      cases hg
  have hm6:=hm.kept hk6 hmne
  obtain ⟨w7,hst,hm7,ht7⟩:=hm6.store (val:= .agg #[.int .i64 a,.int .i64 b,.int .i64 c,.slice ao' (n+1) cap']) strK Tryz.underlying115 (by unfold maxLen;omega) (keyS node hnode)
  have hk7:=Kept.turned ht7
  refine ⟨ao',cap',w6,w7,hr,hst,hk7.ownsRow r1 fun b hb e=> ?_,hm7,hk6,hk7,r3⟩
  rcases r1.2 with ⟨hnil,_⟩| ⟨g,cap2,cur,hv,_,hg,_⟩
  · rw [hnil] at hb;simp [Value.ownBlock] at hb
  · rw [hv] at hb
    simp [Value.ownBlock] at hb
    obtain ⟨es,ck,hmm⟩:=hm6.isMap
    rw [hb,e,hmm] at hg
    cases hg
theorem qeo {P:Program} {ops:Array Oper} {o:Oper} {a:Act} {w w':World} {K:Act→World→Prop} {Q:Exit→Act→World→Prop} {E:Prop} {v':Value}
    (hg:o.guard=none) (s x:Operand) (t:TypeId) (hop:o.op=Op.call { callee:=Callee.builtin Builtin.append,args:= #[s,x],argTypes:= #[t,t] }) (sv xv:Value) (hs:a.eval s=sv) (hx:a.eval x=xv) (hrun:(Builtin.append_ #[t,t] o.type #[sv,xv]).run P w= .ok v' w')
    (hK:K (a.put o.dst v') w'):if Region.wanted o (yielded ops a.tmps)=true then Oper.wp P o a w K Q else E:=by
  have hw:Region.wanted o (yielded ops a.tmps)=true:=by simp [Region.wanted,hg]
  rw [if_pos hw]
  unfold Oper.wp
  simp [execOp,hop,resolve,invoke,builtin,hs,hx,hrun,Result.andThen]
  exact hK
theorem look_round {k:Nat} {W0 wr Wp:World} {g:Gh} {AN:List (qn×qba)} {sv:Value} {n:Nat} {names:List Value} (hbi:Below W0.heap.size W0 wr) (hb:Below wr.heap.size wr Wp) (hMi:qai Tryz.prog wr 9 W0.heap.size (mapV qba.val AN)) (hL:qch W0.heap.size wr g AN k)
    (hR:wr.ownsRow 0 9 1 sv n names) (hlen:AN.length≤32) (hk:k < g.PP.length) {v:qba} (hv:getL AN g.PP[k].2.2.node=some v) {ao2:Option Addr} {cap2:Nat} (hrow:v.row= .slice ao2 v.ptrs.length cap2) (hP:g.PP.length≤128) (B:Nat) (hcell:Wp.cell? ⟨B,0,none⟩=some (ptrV g.PP[k].2.1)) (hnd:g.PP[k].2.2.node.length≤maxLen):
    ∃ ao' cap' w6 w7,(Builtin.append_ #[186,186] 186 #[.slice ao2 v.ptrs.length cap2,.slice (some ⟨B,0,none⟩) 1 1]).run Tryz.prog Wp= .ok (.slice ao' (v.ptrs.length+1) cap') w6∧
      (Instr.mapUpdate 115 (.map (some W0.heap.size)) (.string (bs g.PP[k].2.2.node)) (.agg #[.int .i64 (v.u0+g.PP[k].2.2.n0),.int .i64 (v.u1+g.PP[k].2.2.n1),.int .i64 (v.u2+g.PP[k].2.2.n2),.slice ao' (v.ptrs.length+1) cap'])).run Tryz.prog w6= .ok () w7∧
      Kept (fun b=>(Value.slice ao2 v.ptrs.length cap2).ownBlock=some b) Wp w6∧Kept (fun b=>b=W0.heap.size) w6 w7∧
      (Below W0.heap.size W0 w7∧ ∃ AN',qai Tryz.prog w7 9 W0.heap.size (mapV qba.val AN')∧qch W0.heap.size w7 g AN' (k+1)∧w7.ownsRow 0 9 1 sv n names∧AN'.length≤32):=by
  have hvrow:=(hL.row _ _ hv).1
  have hvB:=(hL.row _ _ hv).2
  rw [hrow] at hvrow hvB
  have hnl:v.ptrs.length≤128:=by
    rw [hL.ptrs _ _ hv,List.length_map]
    have h1:=List.length_filter_le (fun p:qn×(Nat×qag)=>p.2.2.node==g.PP[k].2.2.node) (g.PP.take k)
    have h2:(g.PP.take k).length≤g.PP.length:=by simp;omega
    omega
  have hkb:=Kept.of_below (F:=qq) hb
  have hMp:=hMi.kept hkb id
  have hsz:W0.heap.size≤Wp.heap.size:=Nat.le_trans hbi.size hb.size
  obtain ⟨ao',cap',w6,w7,e1,e2,r7,m7,k6,k7,fr⟩:=look_step (hkb.ownsRow hvrow fun _ _=>id) B g.PP[k].2.1 hcell hMp (by omega) (by rw [qw];omega) (bs g.PP[k].2.2.node) (by rw [qe1];exact hnd) (v.u0+g.PP[k].2.2.n0) (v.u1+g.PP[k].2.2.n1) (v.u2+g.PP[k].2.2.n2)
  rw [qga] at m7
  have hLp:qch W0.heap.size Wp g AN k:=hL.kept hkb fun _ _ _ _ _=>id
  have hk67:Kept (fun b=>(Value.slice ao2 v.ptrs.length cap2).ownBlock=some b∨b=W0.heap.size) Wp w7:=(k6.mono fun i _ h=> .inl h).trans k7 fun i _ h=> .inr h
  have hstep:=hLp.step hk hv (row':= .slice ao' (v.ptrs.length+1) cap') hk67 (fun k' u hu hne b hbu hG=>by
    rcases hG with hG| hG
    · exact hLp.apart _ _ _ _ hv hu (Ne.symm hne) b (by rw [hrow];exact hG) hbu
    · exact row_not_map (hLp.row _ _ hu).1 hMp.isMap (by rw [← hG];exact hbu)) r7 (by rw [hrow];exact fr) hsz
  have hdis:AN.Pairwise fun p q=>p.1≠q.1:=(qbq.1 (hMi.sorted strK)).distinct
  have hbp:Below W0.heap.size W0 Wp:=qj hbi hb
  refine ⟨ao',cap',w6,w7,e1,e2,k6,k7,(hbp.trans (k6.below hsz fun i hi h=> ?_)).trans (k7.below (Nat.le_trans hsz k6.size) fun i hi h=>by omega),_,by rw [← qds];exact m7,hstep,hk67.ownsRow (hkb.ownsRow hR fun _ _=>id) (fun b hbs hG=> ?_),?_⟩
  · have:=hvB i h
    omega
  · obtain ⟨cur,hc⟩:=row_type (hkb.ownsRow hR fun _ _=>id) hbs
    rcases hG with hG| hG
    · exact qhe (hkb.ownsRow hvrow fun _ _=>id) hc (by decide) hG
    · obtain ⟨es,ck,hmm⟩:=hMp.isMap
      rw [hG,hmm] at hc
      cases hc
  · rw [length_putL_some hdis _ (by rw [hv];rfl)]
    exact hlen
end
end Go.Proofs.YtchddaafibjmgaaGreat
