import Derived.Test.YtchddaafibjmgaaGreatMA1
import Derived.Test.YtchddaafibjmgaaGreatMD2
import Derived.Test.YtchddaafibjmgaaGreatMA2
set_option maxRecDepth 100000
set_option maxHeartbeats 20000000
namespace Go.Proofs.YtchddaafibjmgaaGreat
section
def zoneB:ByteArray:=⟨#[122,111,110,101]⟩
theorem zoneB_list:zoneB.toList= [122,111,110,101]:=by rw [ByteArray.toList_eq];rfl
def qbj:List Lab→ByteArray
  | []=>⟨#[]⟩
  | x::L=>if x.1.toList==zoneB.toList then x.2 else qbj L
theorem zoneOf_drop (L:List Lab) (k:Nat) (hk:k < L.length):qbj (L.drop k)=if (qab L k).1.toList==zoneB.toList then (qab L k).2 else qbj (L.drop (k+1)):=by
  rw [List.drop_eq_getElem_cons hk,qbj]
  unfold qab
  rw [List.getElem?_eq_getElem hk]
  rfl
end
section
open Go.RowKit
def setL (cur:Array Value):Nat→List Value→Array Value
  | _,[]=>cur
  | o,v::r=>setL (cur.setIfInBounds o v) (o+1) r
theorem setL_size: ∀ (cs:List Value) (cur:Array Value) (o:Nat),(setL cur o cs).size=cur.size
  | [],_,_=>rfl
  | v::r,cur,o=>by rw [setL,setL_size r];simp
theorem qcv {b:Nat} {t:TypeId} {fr:Nat×Nat}: ∀ (cs:List Value) (o:Nat) {w:World} {cur:Array Value},w.heap[b]? =some (.cells cur t fr)→(w.setCells b o cs).heap[b]? =some (.cells (setL cur o cs) t fr)
  | [],_,_,_,h=>h
  | _::r,o,_,_,h=>qcv r (o+1) (qs h _)
theorem Kept.setCells {F:Nat→Prop} {a:World} {b:Nat} (hp:b < a.heap.size→F b): ∀ (cs:List Value) (o:Nat) {w:World},Kept F a w→Kept F a (w.setCells b o cs)
  | [],_,_,h=>h
  | v::r,o,_,h=>Kept.setCells hp r (o+1) (h.setCell (p:=⟨b,o,none⟩) hp v)
theorem qcw {B:Nat} {a:World} {b:Nat} (hp:B≤b): ∀ (cs:List Value) (o:Nat) {w:World},Below B a w→Below B a (w.setCells b o cs)
  | [],_,_,h=>h
  | v::r,o,_,h=>qcw hp r (o+1) (h.setCell (p:=⟨b,o,none⟩) hp v)
section
variable {P:Program} (w:World)
theorem qgp (dT sT ty elem:TypeId) (b o dLen dCap:Nat) (a:Addr) (sLen sCap:Nat) (cs:List Value) (size n:Nat)
    (hu:P.underlying dT=some (.slice elem)) (hs:(P.info? elem).map (·.size)=some size) (hn:Nat.min sLen dLen=n) (hl:cs.length=n * size)
    (hsrc: ∀ j v,cs[j]? =some v→w.cell? (a.add j)=some v) (hc: ∀ j,j < cs.length→(w.cell? ⟨b,o+j,none⟩).isSome=true) (hf: ∀ j,j < cs.length→w.frozen? ⟨b,o+j,none⟩=false) (h1: ∀ v∈cs,v.oneCell'=true):
    (Builtin.copy_ #[dT,sT] ty #[.slice (some ⟨b,o,none⟩) dLen dCap,.slice (some a) sLen sCap]).run P w= .ok (.int .i64 n) (w.setCells b o cs):=by
  have hld:=run_loadCells_list (P:=P) w a cs hsrc
  have hst:=run_storeCells_cells (P:=P) b o cs 0 w (by simpa using hc) (by simpa using hf) h1
  cases hq:P.info? elem with
  | none=>simp [hq] at hs
  | some i=>
    have hi:i.size=size:=by simpa [hq] using hs
    have e: ∀ m,m=n * size→(loadCells a m).run P w= .ok cs.toArray w:=fun m hm=>by rw [hm,← hl];exact hld
    simp only [Nat.add_zero] at hst
    simp [Builtin.copy_,run_underlying hu,Builtin.lenOf,Builtin.firstCells,sizeOf,typeInfo,hq,hi,hn,e,hst,goInt]
theorem qhd (dT sT ty elem:TypeId) (d a:Option Addr) (dLen dCap sLen sCap:Nat) (hu:P.underlying dT=some (.slice elem)) (i:TypeInfo) (hi:P.info? elem=some i) (hn:Nat.min sLen dLen=0):
    (Builtin.copy_ #[dT,sT] ty #[.slice d dLen dCap,.slice a sLen sCap]).run P w= .ok (.int .i64 0) w:=by
  have hl: ∀ (x:Addr),(loadCells x 0).run P w= .ok #[] w:=fun x=>by simpa using run_loadCells_list (P:=P) w x [] (by simp)
  cases d<;>cases a<;>simp [Builtin.copy_,run_underlying hu,Builtin.lenOf,Builtin.firstCells,sizeOf,typeInfo,hi,hn,storeCells,hl,goInt]
end
end
section
open Go.RowKit Go.Maps
def ky (s:ByteArray):qn:=s.data.toList
def bs (k:qn):ByteArray:=⟨k.toArray⟩
theorem bs_ky (s:ByteArray):bs (ky s)=s:=by cases s;simp [bs,ky]
theorem qga (k:qn):ky (bs k)=k:=by simp [bs,ky]
theorem toList_bs (k:qn):(bs k).toList=k:=ByteArray.toList_mk k
theorem qfx (s:ByteArray):s.toList=ky s:=ByteArray.toList_eq s
theorem qe1 (k:qn):(bs k).size=k.length:=by show k.toArray.size=k.length;rw [List.size_toArray]
theorem qdu (s:ByteArray):(ky s).length=s.size:=by show s.data.toList.length=_;rw [Array.length_toList];rfl
theorem strK:Keyed Tryz.prog 9:=string_keyed Tryz.underlying9
theorem keyS (s:ByteArray) (h:s.size≤maxLen):keyOf Tryz.prog 9 (.string s)=some (.string (ky s)):=WideMaps.keyOf_string_mk Tryz.underlying9 h
theorem qgh {key:Value} {kl:qn} (h:keyOf Tryz.prog 9 key=some (.string kl)):key= .string (bs kl)∧kl.length≤maxLen:=by
  have hu:=Tryz.underlying9
  cases key<;>simp [keyOf,hu,mapKey] at h
  obtain ⟨h1,h2⟩:=h
  subst h2
  exact ⟨congrArg Value.string (bs_ky _).symm,by rw [Array.length_toList];exact h1⟩
def mapV {α β:Type} (f:α→β) (L:List (qn×α)):List (qn×β):=L.map fun p=>(p.1,f p.2)
section
variable {α β γ:Type}
theorem qw (f:α→β) (L:List (qn×α)):(mapV f L).length=L.length:=by simp [mapV]
theorem qz (f:α→β) (L:List (qn×α)) (k:qn):getL (mapV f L) k=(getL L k).map f:=by
  induction L with
  | nil=>rfl
  | cons p r ih=>
    unfold mapV at ih ⊢
    simp only [List.map_cons,getL,ih]
    cases (p.1==k)<;>simp
theorem qeu (f:α→β) (L:List (qn×α)) (k:qn):delL (mapV f L) k=mapV f (delL L k):=by
  unfold delL mapV
  rw [List.filter_map]
  rfl
theorem insL_mapV (f:α→β) (k:qn) (v:α) (L:List (qn×α)):insL (k,f v) (mapV f L)=mapV f (insL (k,v) L):=by
  induction L with
  | nil=>rfl
  | cons p r ih=>
    unfold mapV at ih ⊢
    simp only [List.map_cons,insL]
    split
    · simp
    · simp [ih]
theorem qds (f:α→β) (L:List (qn×α)) (k:qn) (v:α):putL (mapV f L) k (f v)=mapV f (putL L k v):=by
  unfold putL
  rw [qeu,insL_mapV]
theorem qbq {f:α→β} {L:List (qn×α)}:qad (mapV f L)↔qad L:=by
  unfold qad mapV
  rw [List.pairwise_map]
theorem qer {f:α→β} {L:List (qn×α)} {q:qn×β}:q∈mapV f L↔ ∃ p∈L,q=(p.1,f p.2):=by
  unfold mapV
  rw [List.mem_map]
  constructor
  · rintro ⟨p,h1,h2⟩;exact ⟨p,h1,h2.symm⟩
  · rintro ⟨p,h1,h2⟩;exact ⟨p,h1,h2.symm⟩
end
structure qbb where
  r0:Int
  r1:Int
  r2:Int
  labels:List Lab
  taints:List Lab
structure qag where
  n0:Int
  n1:Int
  n2:Int
  port:Int
  labels:List Lab
  apart:List Lab
  node:qn
  bound:Bool
  since:Int
structure Head where
  hold:Int
  rem:Bool
  whole:Bool
  now:Int
structure qba where
  u0:Int
  u1:Int
  u2:Int
  row:Value
  ptrs:List Nat
structure Gh where
  bn:Nat
  bp:Nat
  bf:Nat
  bv:Nat
  ba:Nat
  NN:List (qn×(Value×qbb))
  PP:List (qn×(Nat×qag))
  FF:List (qn×Unit)
  VV:List (qn×qba)
  AA:List (qn×(Nat×List (qn×(Int×Int))))
  bc:Nat
  WW:List PodD
def Gh.nodes (g:Gh):List (qn×qbb):=mapV (·.2) g.NN
def Gh.pods (g:Gh):List (qn×qag):=mapV (·.2) g.PP
def ptrV (q:Nat):Value:= .pointer (some ⟨q,0,none⟩)
def ansV (a:Int×Int):Value:= .agg #[.int .i64 a.1,.int .i64 a.2]
def qba.val (v:qba):Value:= .agg #[.int .i64 v.u0,.int .i64 v.u1,.int .i64 v.u2,v.row]
def boolI (b:Bool):Int:=if b then 1 else 0
def qaz (F:Nat→Prop) (w:World) (v:Value) (l:List Lab):Prop:=
  ∃ b cap cur,v= .slice (some ⟨b,0,none⟩) l.length cap∧F b∧w.heap[b]? =some (.cells cur 85 (0,0))∧(Lst.mk (some ⟨b,0,none⟩) l cap).ok w
def NodeAt (F:Nat→Prop) (w:World) (v:Value) (n:qbb):Prop:= ∃ lv tv,v= .agg #[.int .i64 n.r0,.int .i64 n.r1,.int .i64 n.r2,lv,tv]∧qaz F w lv n.labels∧qaz F w tv n.taints
def qdz (x:qag) (lv av:Value):Array Value:= #[.int .i64 x.n0,.int .i64 x.n1,.int .i64 x.n2,.int .i64 x.port,lv,av,.string (bs x.node),.int .i64 (boolI x.bound),.int .i64 x.since]
def qgx (F:Nat→Prop) (w:World) (q:Nat) (x:qag):Prop:= ∃ lv av,w.heap[q]? =some (.cells (qdz x lv av) 132 (0,0))∧F q∧qaz F w lv x.labels∧qaz F w av x.apart
def RowAt (F:Nat→Prop) (w:World) (v:qba):Prop:=w.ownsRow 0 129 1 v.row v.ptrs.length (v.ptrs.map ptrV)∧ ∀ k,v.row.ownBlock=some k→F k
def boxCells (hd:Head) (g:Gh):Array Value:= #[.int .i64 hd.hold,.bool hd.rem,.bool hd.whole,.int .i64 hd.now,.map (some g.bn),.map (some g.bp),.map (some g.bf),.map (some g.bv),.map (some g.ba),.chan (some g.bc)]
def WaitAt (F:Nat→Prop) (w:World) (p:PodD):Prop:=p.good=true∧p.name.size≤9223372036854775807∧ ∀ x∈p.lists,qaz F w x.val x.L
structure ChanAt (F:Nat→Prop) (w:World) (b:Nat) (W:List PodD):Prop where
  fb:F b
  ob: ∃ s r,w.heap[b]? =some (.chan 128 (W.map fun p=>Value.agg p.cells).toArray false s r false)
  le:W.length≤128
  ps: ∀ p∈W,WaitAt F w p
def Gh.maps (g:Gh):List Nat:= [g.bn,g.bp,g.bf,g.bv,g.ba]++g.AA.map (·.2.1)
structure BMem (F:Nat→Prop) (w:World) (Y:Nat) (hd:Head) (g:Gh):Prop where
  lt: ∀ b,F b→b < w.heap.size
  fy:F Y
  fm: ∀ b∈g.maps,F b
  box:w.heap[Y]? =some (.cells (boxCells hd g) 122 (0,0))
  nd:qai Tryz.prog w 9 g.bn (mapV (·.1) g.NN)
  pd:qai Tryz.prog w 9 g.bp (mapV (fun x=>ptrV x.1) g.PP)
  fr:qai Tryz.prog w 9 g.bf (mapV (fun _=> .agg #[]) g.FF)
  vw:qai Tryz.prog w 9 g.bv (mapV qba.val g.VV)
  an:qai Tryz.prog w 158 g.ba (mapV (fun x=> .map (some x.1)) g.AA)
  nn: ∀ p∈g.NN,NodeAt F w p.2.1 p.2.2
  pp: ∀ p∈g.PP,qgx F w p.2.1 p.2.2
  vv: ∀ p∈g.VV,RowAt F w p.2
  aa: ∀ p∈g.AA,qai Tryz.prog w 9 p.2.1 (mapV ansV p.2.2)
  dist:g.maps.Nodup
  ppd:(g.PP.map (·.2.1)).Nodup
  ch:ChanAt F w g.bc g.WW
def Off (t:TypeId) (G:Nat→Prop) (w:World):Prop:= ∀ b c,G b→w.heap[b]? ≠some (.cells c t (0,0))
theorem Off.map {w:World} {b:Nat} (t:TypeId) (h: ∃ es c,w.heap[b]? =some (.map es c)):Off t (fun x=>x=b) w:=by
  rintro x c rfl e
  obtain ⟨es,c',h⟩:=h
  rw [h] at e
  cases e
theorem Off.cells {w:World} {b:Nat} {t t':TypeId} {c:Array Value} {fr:Nat×Nat} (h:w.heap[b]? =some (.cells c t' fr)) (hne:t'≠t):Off t (fun x=>x=b) w:=by
  rintro x c' rfl e
  rw [h] at e
  simp only [Option.some.injEq,Obj.cells.injEq] at e
  exact hne e.2.1
theorem qbd.kept {G:Nat→Prop} {w w':World} {a:Option Addr} {L:List Lab} (h:qbd w a L) (hk:Kept G w w') (hG: ∀ q,a=some q→ ¬ G q.block):qbd w' a L:=by
  intro k hk'
  obtain ⟨b,off,e,h1,h2⟩:=h k hk'
  have hl:=World.block_lt_of_cell? w _ h1
  refine ⟨b,off,e,?_,?_⟩
  · rw [← h1];exact hk.cell (p:=⟨b,off+k * 2,none⟩) hl (hG ⟨b,off,none⟩ e)
  · rw [← h2];exact hk.cell (p:=⟨b,off+k * 2+1,none⟩) hl (hG ⟨b,off,none⟩ e)
theorem Lst.ok.kept {G:Nat→Prop} {w w':World} {x:Lst} (h:x.ok w) (hk:Kept G w w') (hG: ∀ q,x.a=some q→ ¬ G q.block):x.ok w':=⟨h.1,h.2.1,h.2.2.1.kept hk hG,h.2.2.2⟩
section
variable {F F' G:Nat→Prop} {w w':World}
theorem qaz.kept {v:Value} {l:List Lab} (h:qaz F w v l) (hk:Kept G w w') (hG:Off 85 G w) (hF: ∀ b,F b→F' b):qaz F' w' v l:=by
  obtain ⟨b,cap,cur,rfl,h1,h2,h3⟩:=h
  have hb: ¬ G b:=fun g=>hG b cur g h2
  refine ⟨b,cap,cur,rfl,hF _ h1,by rw [hk.block b (qo h2) hb];exact h2,h3.kept hk ?_⟩
  intro q e
  simp only [Option.some.injEq] at e
  subst e
  exact hb
theorem ChanAt.kept {b:Nat} {W:List PodD} (h:ChanAt F w b W) (hk:Kept G w w') (hb: ¬ G b) (hG:Off 85 G w) (hF: ∀ b,F b→F' b):ChanAt F' w' b W:=by
  obtain ⟨s,r,ho⟩:=h.ob
  exact ⟨hF _ h.fb,⟨s,r,by rw [hk.block b (qo ho) hb];exact ho⟩,h.le,fun p hp=>⟨(h.ps p hp).1,(h.ps p hp).2.1,fun x hx=>((h.ps p hp).2.2 x hx).kept hk hG hF⟩⟩
theorem ChanAt.nmap {b x:Nat} {W:List PodD} (h:ChanAt F w b W) (hx: ∃ es c,w.heap[x]? =some (.map es c)):b≠x:=by
  rintro rfl
  obtain ⟨s,r,ho⟩:=h.ob
  obtain ⟨es,c,hx⟩:=hx
  rw [ho] at hx
  cases hx
theorem ChanAt.ncells {b x:Nat} {W:List PodD} {cs:Array Value} {t:TypeId} {f:Nat×Nat} (h:ChanAt F w b W) (hx:w.heap[x]? =some (.cells cs t f)):b≠x:=by
  rintro rfl
  obtain ⟨s,r,ho⟩:=h.ob
  rw [ho] at hx
  cases hx
theorem NodeAt.kept {v:Value} {n:qbb} (h:NodeAt F w v n) (hk:Kept G w w') (hG:Off 85 G w) (hF: ∀ b,F b→F' b):NodeAt F' w' v n:=by
  obtain ⟨lv,tv,rfl,h1,h2⟩:=h
  exact ⟨lv,tv,rfl,h1.kept hk hG hF,h2.kept hk hG hF⟩
theorem qgx.kept {q:Nat} {x:qag} (h:qgx F w q x) (hk:Kept G w w') (hG:Off 85 G w) (hP: ¬ G q) (hF: ∀ b,F b→F' b):qgx F' w' q x:=by
  obtain ⟨lv,av,h1,h2,h3,h4⟩:=h
  exact ⟨lv,av,by rw [hk.block q (qo h1) hP];exact h1,hF _ h2,h3.kept hk hG hF,h4.kept hk hG hF⟩
theorem qgx.off {q:Nat} {x:qag} (h:qgx F w q x) (hG:Off 132 G w): ¬ G q:=by
  obtain ⟨lv,av,h1,_⟩:=h
  exact fun g=>hG q _ g h1
theorem RowAt.kept {v:qba} (h:RowAt F w v) (hk:Kept G w w') (hG:Off 129 G w) (hF: ∀ b,F b→F' b):RowAt F' w' v:=by
  refine ⟨hk.ownsRow h.1 fun k e g=> ?_,fun k e=>hF _ (h.2 k e)⟩
  rcases h.1.2 with ⟨hn,_⟩| ⟨b,cap,cur,hv,_,hb,_⟩
  · rw [hn] at e
    simp [Value.ownBlock] at e
  · rw [hv] at e
    simp [Value.ownBlock] at e
    subst e
    exact hG _ cur g hb
variable {Y:Nat} {hd:Head} {g:Gh}
theorem BMem.isMap (H:BMem F w Y hd g) {b:Nat} (hb:b∈g.maps): ∃ es c,w.heap[b]? =some (.map es c):=by
  unfold Gh.maps at hb
  simp only [List.cons_append,List.nil_append,List.mem_cons,List.mem_map] at hb
  rcases hb with rfl| rfl| rfl| rfl| rfl| ⟨p,hp,rfl⟩
  · exact H.nd.isMap
  · exact H.pd.isMap
  · exact H.fr.isMap
  · exact H.vw.isMap
  · exact H.an.isMap
  · exact (H.aa p hp).isMap
theorem BMem.kept (H:BMem F w Y hd g) (hk:Kept G w w') (hG: ∀ b,F b→ ¬ G b) (hF: ∀ b,F b→F' b) (hl: ∀ b,F' b→b < w'.heap.size):BMem F' w' Y hd g:=by
  have hm: ∀ b∈g.maps,¬ G b:=fun b hb=>hG b (H.fm b hb)
  have oL: ∀ {v:Value} {l:List Lab},qaz F w v l→qaz F' w' v l:=fun {v l} h=>by
    obtain ⟨b,cap,cur,rfl,h1,h2,h3⟩:=h
    refine ⟨b,cap,cur,rfl,hF _ h1,by rw [hk.block b (qo h2) (hG b h1)];exact h2,h3.kept hk ?_⟩
    intro q e
    simp only [Option.some.injEq] at e
    subst e
    exact hG b h1
  refine ⟨hl,hF _ H.fy,fun b hb=>hF _ (H.fm b hb),by rw [hk.block Y (qo H.box) (hG Y H.fy)];exact H.box,H.nd.kept hk (hm _ (by simp [Gh.maps])),H.pd.kept hk (hm _ (by simp [Gh.maps])),H.fr.kept hk (hm _ (by simp [Gh.maps])),
    H.vw.kept hk (hm _ (by simp [Gh.maps])),H.an.kept hk (hm _ (by simp [Gh.maps])),fun p hp=> ?_,fun p hp=> ?_,fun p hp=> ?_,fun p hp=>(H.aa p hp).kept hk (hm _ (List.mem_append_right _ (List.mem_map.2 ⟨p,hp,rfl⟩))),H.dist,H.ppd,?_⟩
  · obtain ⟨lv,tv,e,h1,h2⟩:=H.nn p hp
    exact ⟨lv,tv,e,oL h1,oL h2⟩
  · obtain ⟨lv,av,h1,h2,h3,h4⟩:=H.pp p hp
    exact ⟨lv,av,by rw [hk.block _ (qo h1) (hG _ h2)];exact h1,hF _ h2,oL h3,oL h4⟩
  · have h:=H.vv p hp
    exact ⟨hk.ownsRow h.1 fun k e=>hG _ (h.2 k e),fun k e=>hF _ (h.2 k e)⟩
  · obtain ⟨s,r,ho⟩:=H.ch.ob
    exact ⟨hF _ H.ch.fb,⟨s,r,by rw [hk.block _ (qo ho) (hG _ H.ch.fb)];exact ho⟩,H.ch.le,fun p hp=>⟨(H.ch.ps p hp).1,(H.ch.ps p hp).2.1,fun x hx=>oL ((H.ch.ps p hp).2.2 x hx)⟩⟩
theorem BMem.below (H:BMem F w Y hd g) (hb:Below w.heap.size w w'):BMem F w' Y hd g:=
  H.kept (Kept.of_below (F:=qq) hb) (fun _ _=>id) (fun _ h=>h) fun b hf=>Nat.lt_of_lt_of_le (H.lt b hf) hb.size
theorem BMem.off (H:BMem F w Y hd g) {b:Nat} (hb:b∈g.maps) (t:TypeId):Off t (fun x=>x=b) w:=Off.map t (H.isMap hb)
theorem BMem.ny (H:BMem F w Y hd g) {b:Nat} (hb:b∈g.maps):Y≠b:=by
  rintro rfl
  obtain ⟨es,c,h⟩:=H.isMap hb
  rw [H.box] at h
  cases h
end
end
end Go.Proofs.YtchddaafibjmgaaGreat
