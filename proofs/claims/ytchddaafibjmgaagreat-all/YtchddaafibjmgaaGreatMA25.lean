import Derived.Test.YtchddaafibjmgaaGreatMA24
import Derived.Test.YtchddaafibjmgaaGreatMB1
set_option maxRecDepth 100000
set_option maxHeartbeats 20000000
namespace Go.Proofs.YtchddaafibjmgaaGreat
section
open Go.RowKit Go.Maps Go.Conc
theorem qbu.waits {hd:Head} {g:Gh} (S:qbu hd g) (W':List PodD):qbu hd { g with WW:=W' }:=⟨S.b.of_eq rfl rfl rfl,⟨S.l.vk,fun k v hv=>⟨(S.l.views k v hv).ptrs,(S.l.views k v hv).used⟩,S.l.ak,S.l.ans⟩⟩
section
variable {F:Nat→Prop} {w:World} {Y:Nat} {a:Abs}
theorem spec_queue (B:BSt F w Y a) (p:PodD) (hok:p.ok w):
    Calls Tryz.prog 31 #[.pointer (some ⟨Y,0,none⟩),.agg p.cells] w fun e w'=> ∃ F',e= .returned (.int .i64 (a.queueErr p.name p.val))∧Left F w Y (a.queue p.name p.val) F' w':=by
  have B0:=B
  obtain ⟨hd,g,H,S,rfl⟩:=B
  have hlen:(qcc hd g).W.length=g.WW.length:=by show (g.WW.map _).length=_;rw [List.length_map]
  by_cases h0:p.err=0
  · refine (queue_try H p hok h0).mono ?_
    have h0':errP p.name p.val=0:=h0
    rintro e w' (⟨h1,rfl,hb⟩| ⟨h1,rfl,q,q0,q1,q2,q3,q4,q5,q6,q7,q8,q9,H',hk⟩)
    · have he:(qcc hd g).queueErr p.name p.val=6:=by
        unfold Abs.queueErr
        rw [h0',hlen,if_neg (by omega),if_pos h1]
      refine ⟨F,by rw [he],?_⟩
      unfold Abs.queue
      rw [he,if_neg (by omega)]
      exact Left.of_below B0 hb
    · have he:(qcc hd g).queueErr p.name p.val=0:=by
        unfold Abs.queueErr
        rw [h0',hlen,if_neg (by omega),if_neg (by omega)]
      refine ⟨_,by rw [he],⟨⟨hd,_,H',S.waits _,?_⟩,fun b h=>h,hk⟩⟩
      unfold Abs.queue
      rw [if_pos he]
      have hv:q.val=p.val:=by
        unfold PodD.val
        rw [q1,q2,q3,q4,q5,q6,q7,q8,q9]
      show Abs.mk _ _ _ _ _ ((g.WW++ [q]).map _)=Abs.mk _ _ _ _ _ (g.WW.map _++ [(p.name,p.val)])
      rw [List.map_append,List.map_cons,List.map_nil,q0,hv]
      rfl
  · have he:(qcc hd g).queueErr p.name p.val=p.err:=by
      unfold Abs.queueErr
      rw [← err_val,if_pos h0]
    refine (queue_bad p hok h0).mono ?_
    rintro e w' ⟨rfl,hb⟩
    refine ⟨F,by rw [he],?_⟩
    unfold Abs.queue
    rw [he,if_neg h0]
    exact Left.of_below B0 hb
theorem own_ok {x:Lst} (h:qaz F w x.val x.L):x.ok w:=by
  obtain ⟨b,cap,cur,e,_,_,h3⟩:=h
  obtain ⟨a,L,c⟩:=x
  unfold Lst.val at e
  simp only [Value.slice.injEq,true_and] at e
  obtain ⟨rfl,rfl⟩:=e
  exact h3
theorem BSt.take (B:BSt F w Y a) {x:ByteArray×PodV} {R:List (ByteArray×PodV)} (hW:a.W=x::R):
    ∃ (c s r:Nat) (p:PodD) (buf:Array Value),w.cell? ⟨Y,9,none⟩=some (.chan (some c))∧w.heap[c]? =some (.chan 128 buf false s r false)∧0 < buf.size∧buf.getD 0 undef= .agg p.cells∧x=(p.name,p.val)∧p.ok (w.setChan c 128 (buf.extract 1 buf.size) false s (r+1) false)∧
      Left F w Y { a with W:=R } F (w.setChan c 128 (buf.extract 1 buf.size) false s (r+1) false):=by
  obtain ⟨hd,g,H,S,rfl⟩:=B
  obtain ⟨s,r,ob⟩:=H.ch.ob
  have hW':g.WW.map (fun p=>(p.name,p.val))=x::R:=hW
  cases hg:g.WW with
  | nil=>rw [hg] at hW';cases hW'
  | cons p t=>
    rw [hg] at hW' ob
    simp only [List.map_cons,List.cons.injEq] at hW'
    have hx:((List.map (fun p:PodD=>Value.agg p.cells) (p::t)).toArray.extract 1 (List.map (fun p:PodD=>Value.agg p.cells) (p::t)).toArray.size)=(t.map fun p=>Value.agg p.cells).toArray:=by
      simp
      exact List.take_of_length_le (by simp)
    have K:Kept (fun b=>b=g.bc) w (w.setChan g.bc 128 (t.map fun p=>Value.agg p.cells).toArray false s (r+1) false):=(Kept.refl (fun b=>b=g.bc) w).setChan (fun _=>rfl) _ _ _ _ _ _
    have off:Off 85 (fun b=>b=g.bc) w:=Off.chan _ ob
    have hps:=H.ch.ps
    rw [hg] at hps
    have hc:ChanAt F (w.setChan g.bc 128 (t.map fun p=>Value.agg p.cells).toArray false s (r+1) false) g.bc t:=by
      refine ⟨H.ch.fb,⟨s,r+1,heap_setChan w g.bc 128 _ false s (r+1) false (qo ob)⟩,?_,fun q hq=> ?_⟩
      · have:=H.ch.le
        rw [hg,List.length_cons] at this
        omega
      · obtain ⟨h1,h2,h3⟩:=hps q (List.mem_cons_of_mem _ hq)
        exact ⟨h1,h2,fun y hy=>(h3 y hy).kept K off fun _ h=>h⟩
    refine ⟨g.bc,s,r,p,_,H.cC,ob,by simp,by simp,hW'.1.symm,?_,?_⟩
    · rw [hx]
      obtain ⟨h1,h2,h3⟩:=hps p List.mem_cons_self
      exact ⟨h2,fun y hy=>own_ok ((h3 y hy).kept K off fun _ h=>h)⟩
    · rw [hx]
      refine ⟨⟨hd,_,H.chan K (fun _ h=>h) (fun b h=>Nat.lt_of_lt_of_le (H.lt b h) K.size) hc,S.waits _,?_⟩,qg5,K.mono fun i _ e=>by rw [e];exact H.ch.fb⟩
      show Abs.mk _ _ _ _ _ (t.map _)=Abs.mk _ _ _ _ _ R
      rw [hW'.2]
      rfl
theorem BSt.idle (B:BSt F w Y a) (hW:a.W= []): ∃ (c s r:Nat),w.cell? ⟨Y,9,none⟩=some (.chan (some c))∧w.heap[c]? =some (.chan 128 #[] false s r false):=by
  obtain ⟨hd,g,H,S,rfl⟩:=B
  obtain ⟨s,r,ob⟩:=H.ch.ob
  have hW':g.WW.map (fun p=>(p.name,p.val))= []:=hW
  have:g.WW= []:=by simpa using hW'
  rw [this] at ob
  exact ⟨g.bc,s,r,H.cC,ob⟩
theorem BSt.waiting (B:BSt F w Y a): ∃ (c:Nat),w.cell? ⟨Y,9,none⟩=some (.chan (some c))∧ ∀ ty,(Builtin.len_ #[120] ty #[.chan (some c)]).run Tryz.prog w= .ok (.int .i64 a.W.length) w:=by
  obtain ⟨hd,g,H,S,rfl⟩:=B
  obtain ⟨s,r,ob⟩:=H.ch.ob
  refine ⟨g.bc,H.cC,fun ty=> ?_⟩
  have:=Go.Conc.run_len_chan (P:=Tryz.prog) 120 ty Tryz.underlying120 ob
  show _=Result.ok (Value.int .i64 (g.WW.map _).length) w
  simpa [goInt] using this
end
theorem sched_W (a:Abs) (s:ByteArray) (v:PodV):(a.sched s v).2.W=a.W:=by
  unfold Abs.sched
  split
  · rfl
  · dsimp only
    split<;>rfl
theorem drain_nil {a:Abs} (h:a.W= []): ∀ n,a.drain n=([],a)
  | 0=>rfl
  | n+1=>by rw [Abs.drain,h]
theorem qe0 {a:Abs} {x:ByteArray×PodV} {R:List (ByteArray×PodV)} (h:a.W=x::R) (n:Nat):a.drain (n+1)=((({ a with W:=R }:Abs).sched x.1 x.2).1::((({ a with W:=R }:Abs).sched x.1 x.2).2.drain n).1,((({ a with W:=R }:Abs).sched x.1 x.2).2.drain n).2):=by
  rw [Abs.drain,h]
theorem drain_succ: ∀ (k:Nat) (a:Abs) {x:ByteArray×PodV} {R:List (ByteArray×PodV)},(a.drain k).1.length=k→(a.drain k).2.W=x::R→
    a.drain (k+1)=((a.drain k).1++ [(({ (a.drain k).2 with W:=R }:Abs).sched x.1 x.2).1],(({ (a.drain k).2 with W:=R }:Abs).sched x.1 x.2).2)
  | 0,a,x,R,_,h=>by
    rw [qe0 (a:=a) h]
    rfl
  | k+1,a,x,R,hl,h=>by
    cases hW:a.W with
    | nil=>
      rw [drain_nil hW] at hl
      cases hl
    | cons y T=>
      rw [qe0 hW] at hl h
      rw [qe0 hW (k+1),qe0 hW k]
      have ih:=drain_succ k (({ a with W:=T }:Abs).sched y.1 y.2).2 (x:=x) (R:=R) (by simpa using hl) h
      rw [ih]
      rfl
theorem drain_stop: ∀ (k m:Nat) (a:Abs),(a.drain k).2.W= []→k≤m→a.drain m=a.drain k
  | 0,m,a,h,_=>drain_nil h m
  | k+1,m,a,h,hm=>by
    obtain ⟨m,rfl⟩: ∃ j,m=j+1:=⟨m - 1,by omega⟩
    cases hW:a.W with
    | nil=>rw [drain_nil hW,drain_nil hW]
    | cons y T=>
      rw [qe0 hW] at h
      rw [qe0 hW,qe0 hW,drain_stop k m _ h (by omega)]
end
section
open Go.RowKit Go.Maps Go.Conc
theorem infoRTd:(Tryz.prog.info? 97).map (fun i=>(i.zero,i.size,i.bytes))=some (some (.agg #[.int .i64 0,.string ⟨#[]⟩,.int .i64 0,.slice none 0 0,.int .i64 0]),5,64):=by kernel_rfl
def qhp (x:Rep×Option Addr×Nat):List Value:= [.int .i64 x.1.err,.string (bs x.1.node),.int .i64 x.1.score,.slice x.2.1 x.1.reasons.length x.2.2,.int .i64 x.1.fresh]
structure qf6 (F:Nat→Prop) (w w':World) (l:List (Rep×Option Addr×Nat)) (v:Value):Prop where
  row:w'.ownsRow 0 97 5 v l.length (l.flatMap qhp)
  new: ∀ b,v.ownBlock=some b→w.heap.size≤b∧ ¬ F b
  rsn: ∀ x∈l,w'.ownsRow 0 88 2 (.slice x.2.1 x.1.reasons.length x.2.2) x.1.reasons.length (x.1.reasons.flatMap qfb)
  rnew: ∀ x∈l,∀ b,(Value.slice x.2.1 x.1.reasons.length x.2.2).ownBlock=some b→w.heap.size≤b∧ ¬ F b
  dis:l.Pairwise fun x y=> ∀ b,(Value.slice x.2.1 x.1.reasons.length x.2.2).ownBlock=some b→(Value.slice y.2.1 y.1.reasons.length y.2.2).ownBlock≠some b
theorem qf6.kept {F F' G:Nat→Prop} {w w1 w2:World} {l:List (Rep×Option Addr×Nat)} {v:Value} (R:qf6 F w w1 l v) (hk:Kept G w1 w2) (hG: ∀ b,G b→b < w1.heap.size→F b∨b < w.heap.size) (hF: ∀ b,F' b→F b∨w1.heap.size≤b):qf6 F' w w2 l v:=by
  have hr: ∀ {e:TypeId} {s n:Nat} {u:Value} {xs:List Value},w1.ownsRow 0 e s u n xs→(∀ b,u.ownBlock=some b→w.heap.size≤b∧ ¬ F b)→w2.ownsRow 0 e s u n xs∧ ∀ b,u.ownBlock=some b→w.heap.size≤b∧ ¬ F' b:=by
    intro e s n u xs h hn
    refine ⟨hk.ownsRow h fun b hb g=> ?_,fun b hb=>⟨(hn b hb).1,fun hf=> ?_⟩⟩
    · have:=hn b hb
      rcases hG b g (h.lt b hb).2 with h| h
      · exact this.2 h
      · omega
    · rcases hF b hf with h'| h'
      · exact (hn b hb).2 h'
      · have:=(h.lt b hb).2
        omega
  exact ⟨(hr R.row R.new).1,(hr R.row R.new).2,fun x hx=>(hr (R.rsn x hx) (R.rnew x hx)).1,fun x hx=>(hr (R.rsn x hx) (R.rnew x hx)).2,R.dis⟩
theorem qf6.left {F F':Nat→Prop} {w w1 w2:World} {Y:Nat} {a:Abs} {l:List (Rep×Option Addr×Nat)} {v:Value} (R:qf6 F w w1 l v) (L:Left F w1 Y a F' w2):qf6 F' w w2 l v:=
  R.kept L.kept (fun _ h _=> .inl h) fun b h=>(L.less b h).imp id fun h=>h.1
theorem Left.beside {F F' G:Nat→Prop} {w w1 w2:World} {Y:Nat} {a:Abs} (L:Left F w Y a F' w1) (hk:Kept G w1 w2) (hG: ∀ b,G b→w.heap.size≤b∧ ¬ F' b):Left F w Y a F' w2:=
  ⟨L.st.kept hk fun b hb g=>(hG b g).2 hb,fun b hb=>(L.less b hb).imp id fun h=>⟨h.1,Nat.lt_of_lt_of_le h.2 hk.size⟩,L.kept.trans hk fun i hi g=>by have:=(hG i g).1;omega⟩
theorem five_at (w:World) (a b c d e:Value) (t:TypeId): ∀ (j:Nat) u,[a,b,c,d,e][j]? =some u→(w.alloc (.cells #[a,b,c,d,e] t)).cell? ((⟨w.heap.size,0,none⟩:Addr).add j)=some u:=by
  intro j u hu
  have ha:(⟨w.heap.size,0,none⟩:Addr).add j=⟨w.heap.size,j,none⟩:=by
    unfold Addr.add
    split
    · rename_i h;rw [h]
    · simp
  rw [ha,ql (qm w _),← hu]
  simp
theorem qf6.add {F:Nat→Prop} {w w1 w2:World} {l:List (Rep×Option Addr×Nat)} {v v':Value} (R:qf6 F w w1 l v) (hs:w.heap.size≤w1.heap.size) (hlt: ∀ b,F b→b < w1.heap.size) {x:Rep×Option Addr×Nat} (hr:w1.ownsRow 0 88 2 (.slice x.2.1 x.1.reasons.length x.2.2) x.1.reasons.length (x.1.reasons.flatMap qfb)) (hn: ∀ b,(Value.slice x.2.1 x.1.reasons.length x.2.2).ownBlock=some b→w.heap.size≤b∧ ¬ F b) (hd: ∀ y∈l,∀ b,(Value.slice y.2.1 y.1.reasons.length y.2.2).ownBlock=some b→(Value.slice x.2.1 x.1.reasons.length x.2.2).ownBlock≠some b)
    (r:w2.ownsRow 0 97 5 v' (l.length+1) (l.flatMap qhp++qhp x)) (g:w1.grownBy w2 v.ownBlock) (f:v'.ownBlock=v.ownBlock∨ ∀ k,v'.ownBlock=some k→w1.heap.size≤k):qf6 F w w2 (l++ [x]) v'∧Kept (fun b=>v.ownBlock=some b) w1 w2:=by
  have K:Kept (fun b=>v.ownBlock=some b) w1 w2:=(Kept.refl _ _).grown g fun k hk _=>hk
  have ap: ∀ {u:Value} {n:Nat} {xs:List Value},w1.ownsRow 0 88 2 u n xs→w2.ownsRow 0 88 2 u n xs:=fun h=>K.ownsRow h fun b hb e=>qce h R.row (by decide) hb e
  refine ⟨⟨?_,fun b h=> ?_,fun y hy=> ?_,fun y hy=> ?_,List.pairwise_append.2 ⟨R.dis,List.pairwise_singleton _ _,fun y hy z hz=>by rw [List.mem_singleton] at hz;subst hz;exact hd y hy⟩⟩,K⟩
  · rw [List.length_append,List.length_singleton,List.flatMap_append]
    simpa using r
  · rcases f with f| f
    · exact R.new b (by rw [← f];exact h)
    · have:=f b h
      exact ⟨by omega,fun hf=>by have:=hlt b hf;omega⟩
  · rcases List.mem_append.1 hy with hy| hy
    · exact ap (R.rsn y hy)
    · rw [List.mem_singleton] at hy
      subst hy
      exact ap hr
  · rcases List.mem_append.1 hy with hy| hy
    · exact R.rnew y hy
    · rw [List.mem_singleton] at hy
      subst hy
      exact hn
def lenV:Value→Nat
  | .slice _ n _=>n
  | _=>0
section
variable {F:Nat→Prop} {w:World} {Y:Nat} {a:Abs}
theorem spec_drain (B:BSt F w Y a) (n:Int) (hn: -9223372036854775808≤n∧n≤9223372036854775807):
    Calls Tryz.prog 61 #[.pointer (some ⟨Y,0,none⟩),.int .i64 n] w fun e w'=> ∃ F' l oo oc,e= .returned (.slice oo l.length oc)∧l.map (·.1)=(a.drain n.toNat).1∧Left F w Y (a.drain n.toNat).2 F' w'∧qf6 F' w w' l (.slice oo l.length oc):=by
  obtain ⟨i0,hi,hz0,hz1,hz2⟩:=info_parts infoRTd
  obtain ⟨c,hc9,hlen⟩:=B.waiting
  have hw128:=B.fine.nw
  have HB:Hid (BSt F w Y a):=B
  have hY:=B.lt Y B.fy
  clear B
  go_enter Tryz.func61,Tryz.ntmps61
  obtain ⟨c0,hc0,hc1⟩: ∃ c0:Nat,max 0 (min n (a.W.length:Int))=(c0:Int)∧c0≤128:=⟨(max 0 (min n (a.W.length:Int))).toNat,by omega,by omega⟩
  go_upto_region 2 with (at_make;refine wpList_make_own _ rfl _ _ 95 rfl 0 97 i0 _ 5 Tryz.underlying95 hi hz0 hz1 _ _ _ c0 rfl rfl rfl (by rw [hz2];omega) (by unfold maxLen;omega) (Nat.zero_le _) ?_;intro w2 hr2 hg2)
  have hb2:Below w.heap.size w w2:=⟨hg2.os,hg2.tape,hg2.output,hg2.size,fun k hk=>hg2.block k hk (by simp)⟩
  have HR:Hid (qf6 F w w2 [] (.slice (some ⟨w.heap.size,0,none⟩) 0 c0)):=⟨hr2,fun b h=>by simp [Value.ownBlock] at h;subst h;exact ⟨Nat.le_refl _,fun hf=>by have:=HB.out.lt _ hf;omega⟩,fun x hx=>by simp at hx,fun x hx=>by simp at hx,List.Pairwise.nil⟩
  have HL:Hid (Left F w Y a F w2):=Left.of_below HB.out hb2
  clear hr2 hg2 hb2 hlen hc9 hc0
  go_loopw [5] (fun v wr=> ∃ (k:Nat) (l:List (Rep×Option Addr×Nat)) (oo:Option Addr) (oc:Nat) (F':Nat→Prop),v= .slice oo k oc∧l.length=k∧l.map (·.1)=(a.drain k).1∧k≤n.toNat∧(a.drain k).2.W.length+k=a.W.length∧Left F w Y (a.drain k).2 F' wr∧qf6 F' w wr l (.slice oo k oc)) (fun v _=>n.toNat - lenV v)
  case atStart=>exact ⟨0,[],_,_,F,rfl,rfl,rfl,Nat.zero_le _,rfl,HL.out,HR.out⟩
  case round=>
    clear HR HL
    obtain ⟨k,l,oo,oc,F',rfl,hlk,hld,hkn,hWk,hL,hR⟩:=hrel
    have HL:Hid (Left F w Y (a.drain k).2 F' wr):=hL
    have HRp:Hid (qf6 F' w wr l (.slice oo k oc)):=hR
    have HD:Hid (l.length=k∧l.map (·.1)=(a.drain k).1∧k≤n.toNat∧(a.drain k).2.W.length+k=a.W.length):=⟨hlk,hld,hkn,hWk⟩
    have hk128:k≤128:=by omega
    have hYr:=hL.st.lt Y hL.st.fy
    clear hlk hld hWk hR
    by_cases hlt:(k:Int) < n
    · cases hW:(a.drain k).2.W with
      | nil=>
        obtain ⟨c,s,r,hc9,ob⟩:=hL.st.idle hW
        have HW:Hid _:=hW
        clear hW hL
        go_upto_region 4 with fail
        refine wp_sel_none (c:=c) (z:= .agg #[.string ⟨#[]⟩,.int .i64 0,.int .i64 0,.int .i64 0,.int .i64 0,.slice none 0 0,.slice none 0 0,.slice none 0 0,.slice none 0 0,.slice none 0 0]) rfl rfl ?_ ob ?_
        · simp [go_sem,execOp,rcase,Act.eval]
        · go_wp2
          go_ret
          obtain ⟨h1,h2,h3,h4⟩:=HD.out
          subst h1
          have:=drain_stop _ n.toNat a HW.out h3
          rw [this]
          exact ⟨F',l,oo,oc,rfl,h2,HL.out,HRp.out⟩
      | cons x R=>
        obtain ⟨c,s,r,p,buf,hc9,ob,hsz,hgd,hx,hok,hT⟩:=hL.st.take hW
        have HW:Hid _:=hW
        have HX:Hid _:=hx
        unfold PodD.cells Lst.val at hgd
        obtain ⟨W1,hW1⟩: ∃ W,W=wr.setChan c 128 (buf.extract 1 buf.size) false s (r+1) false:=⟨_,rfl⟩
        rw [← hW1] at hok hT
        have cS:=fun W (hb:Below W1.heap.size W1 W)=>spec_sched (hT.st.below hb) p (hok.below hb)
        obtain ⟨rp,an,hra⟩: ∃ rp an,({ (a.drain k).2 with W:=R }:Abs).sched p.name p.val=(rp,an):=⟨_,_,rfl⟩
        rw [hra] at cS
        have HRA:Hid _:=hra
        clear hra
        dsimp only at cS
        unfold PodD.cells Lst.val repV at cS
        have HT:Hid _:=hT
        clear hW hL hx
        go_upto_region 4 with fail
        refine wp_sel_recv (c:=c) (z:= .agg #[.string ⟨#[]⟩,.int .i64 0,.int .i64 0,.int .i64 0,.int .i64 0,.slice none 0 0,.slice none 0 0,.slice none 0 0,.slice none 0 0,.slice none 0 0]) rfl rfl ?_ ob hsz ?_
        · simp [go_sem,execOp,rcase,Act.eval]
        · rw [hgd,← hW1]
          have sY1:Y < W1.heap.size:=hT.st.lt Y hT.st.fy
          clear hW1 hgd hT ob hsz hc9
          go_wp2_with (first
            | (go_at_call 53;refine (cS _ (qi W1 _)).mono ?_;rintro e w4 ⟨F4,ro,rc,rfl,L4,R4⟩;have RP:qf6 F4 w w4 l (.slice oo k oc):=((HRp.out.left HT.out).kept (Kept.of_below (F:=qq) (qi W1 _)) (fun _ h _=>h.elim) (fun _ h=> .inl h)).left L4;have HRP:Hid (qf6 F4 w (w4.alloc (.cells #[.int .i64 rp.err,.string (bs rp.node),.int .i64 rp.score,.slice ro rp.reasons.length rc,.int .i64 rp.fresh] 97)) l (.slice oo k oc)):=RP.kept (Kept.of_below (F:=qq) (qi w4 _)) (fun _ h _=>h.elim) (fun _ h=> .inl h);have HROW:Hid ((w4.alloc (.cells #[.int .i64 rp.err,.string (bs rp.node),.int .i64 rp.score,.slice ro rp.reasons.length rc,.int .i64 rp.fresh] 97)).ownsRow 0 97 5 (.slice oo k oc) k (l.flatMap qhp)):=(by have:=HRP.out.row;rw [HD.out.1] at this;exact this);have HL4:Hid _:=L4;have HR4:Hid _:=R4;clear L4 R4 RP)
            | (at_builtin;refine qy _ rfl (.tmp 29) (.tmp 33) 95 rfl 97 i0 _ 5 64 Tryz.underlying95 hi hz0 hz1 hz2 rfl (by decide) (.slice oo k oc) k _ rfl HROW.out ⟨w4.heap.size,0,none⟩ 1 1 [.int .i64 rp.err,.string (bs rp.node),.int .i64 rp.score,.slice ro rp.reasons.length rc,.int .i64 rp.fresh] rfl rfl (five_at w4 _ _ _ _ _ _) (fun u hu=>by simp at hu;rcases hu with rfl| rfl| rfl| rfl| rfl<;>rfl) (by unfold maxLen;omega) (by omega) ?_;intro ao5 cap5 w5 r5 g5 f5))
          obtain ⟨h1,h2,h3,h4⟩:=HD.out
          have L5:Left F w Y an F4 (w4.alloc (.cells #[.int .i64 rp.err,.string (bs rp.node),.int .i64 rp.score,.slice ro rp.reasons.length rc,.int .i64 rp.fresh] 97)):=(((HL.out.then HT.out).then (HL4.out.before (qi W1 _))).behind (qi w4 _))
          have hs0:w.heap.size≤W1.heap.size:=Nat.le_trans HL.out.kept.size HT.out.kept.size
          have hs4:W1.heap.size≤w4.heap.size:=Nat.le_trans (Nat.le_trans (Nat.le_succ _) (by simp)) HL4.out.kept.size
          have hdl:(a.drain k).1.length=k:=by rw [← h2,List.length_map];exact h1
          have hDS:=drain_succ k a hdl HW.out
          rw [HX.out] at hDS
          dsimp only at hDS
          rw [HRA.out] at hDS
          obtain ⟨RP,K5⟩:=HRP.out.add (x:=(rp,ro,rc)) (v':= .slice ao5 (k+1) cap5) (by simp;omega) (fun b hb=>by have:=HL4.out.st.lt b hb;simp;omega) ((Kept.of_below (F:=qq) (qi w4 _)).ownsRow HR4.out.rsn fun _ _=>id) (fun b hb=>by have:=HR4.out.rnew b hb;simp at this;exact ⟨by omega,this.2⟩) (fun y hy b hb e=>by have q1:=((HRp.out.rsn y hy).lt b hb).2;have q2:=(HR4.out.rnew b e).1;have q3:=HT.out.kept.size;simp at q2;omega) (by rw [h1];exact r5) g5 f5
          refine ⟨⟨k+1,l++ [(rp,ro,rc)],ao5,cap5,F4,rfl,by rw [List.length_append,h1];rfl,?_,by omega,?_,?_,RP⟩,?_⟩
          · rw [hDS,List.map_append,h2]
            rfl
          · rw [hDS]
            have hWa:an.W=R:=by
              have:=sched_W ({ (a.drain k).2 with W:=R }:Abs) p.name p.val
              rw [HRA.out] at this
              exact this
            rw [HW.out,List.length_cons] at h4
            show an.W.length+_=_
            rw [hWa]
            omega
          · rw [hDS]
            exact L5.beside K5 fun b hb=>HRP.out.new b hb
          · show n.toNat - (k+1) < n.toNat - k
            omega
    · have hkn':k=n.toNat:=by omega
      clear hL
      go_wp2
      go_ret
      obtain ⟨h1,h2,h3,h4⟩:=HD.out
      subst h1
      rw [← hkn']
      exact ⟨F',l,oo,oc,rfl,h2,HL.out,HRp.out⟩
end
end
end Go.Proofs.YtchddaafibjmgaaGreat
