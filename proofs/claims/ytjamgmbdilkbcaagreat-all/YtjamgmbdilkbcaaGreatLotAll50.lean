import Derived.Test.YtjamgmbdilkbcaaGreatLotAll48
import Derived.Test.YtjamgmbdilkbcaaGreatLotAll49
import Derived.Test.YtjamgmbdilkbcaaGreatLotAll16
import Derived.Test.YtjamgmbdilkbcaaGreatLotAll44
import Derived.Test.YtjamgmbdilkbcaaGreatLotAll22
import Derived.Test.YtjamgmbdilkbcaaGreatLotAll05
import Derived.ProofKit
import Derived.OpenShut
import Derived.Deep.SlicePairs
import Derived.Lib.SmallJoins
import Derived.SizedLaws
set_option maxHeartbeats 4000000
set_option maxRecDepth 100000
namespace Go.Proofs.YtjamgmbdilkbcaaGreat
open Go.RowKit
def Fair(m:Pu.Md):Prop:=m.kinds.length<=1048576/\m.funcs.length<=1048576/\∀f∈m.funcs,f.params.length<=1048576/\f.results.length<=1048576/\f.locals.length<=1048576/\f.code.length<=1048576
theorem Fair.le{m:Pu.Md}(h:Fair m){N:Nat}(hN:1048576<=N):m.kinds.length<=N/\m.funcs.length<=N/\∀f∈m.funcs,f.params.length<=N/\f.results.length<=N/\f.locals.length<=N/\f.code.length<=N:=by
 obtain⟨h1,h2,h3⟩:=h
 exact⟨by omega,by omega,fun f hf=>by have:=h3 f hf;omega⟩
def EncOut(w w':World)(B:Nat)(ph:Hp)(K:Nat)(e:Ending):Prop:=e=.returned (.bool true)/\(∃S',Hd w' B ph S' K)/\Kt B w.heap.size ph.b w w'
structure EB (w W0 wr:World) (B:Nat) (ph:Hp) (K gk gf:Nat) (vi vc kv vv:Value) (m:Pu.Md) (D:List (Nat × Nat × Nat × Nat)) (ms:List FV) (M:Nat->Prop):Prop where
 s:LnS wr W0.heap.size (W0.heap.size+1) (front gk m.kinds.length) (front gf m.funcs.length) vi vc (sl gf m.funcs.length) ((gk,m.kinds)::Rof m.funcs D) (Cof m.funcs D)
 ro:wr.ownsRow W0.heap.size 62 4 (sl gf m.funcs.length) (m.funcs.length+2) (fc (lfvs m.funcs D++ms))
 ms:∀f∈ms,MarkedF wr M f ink
 hd:Hd wr B ph (fun k=>k<W0.heap.size) K
 hx:MdR wr wr.heap.size (front gk m.kinds.length) (front gf m.funcs.length) m
 hm:MdR wr wr.heap.size kv vv m
 bx:F2 wr w.heap.size 38 kv vv
 bl:Below w.heap.size w wr
theorem EB.below{w W0 wr w':World}{B:Nat}{ph:Hp}{K gk gf:Nat}{vi vc kv vv:Value}{m:Pu.Md}{D:List (Nat × Nat × Nat × Nat)}{ms:List FV}{M:Nat->Prop}(h:EB w W0 wr B ph K gk gf vi vc kv vv m D ms M)(hb:Below wr.heap.size wr w'):EB w W0 w' B ph K gk gf vi vc kv vv m D ms M:=
 ⟨h.s.below hb,owns_below h.ro hb,fun f hf=>(h.ms f hf).below hb,h.hd.below hb,(h.hx.below hb).wide hb.size,(h.hm.below hb).wide hb.size,(hb.block _ h.bx.lt).trans h.bx,h.bl.trans (hb.mono h.bl.size)⟩
theorem hencode_any(m:Pu.Md)(kv vv:Value)(B:Nat)(ph:Hp)(K:Nat)(S:Nat->Prop)(w:World)(hd:Hd w B ph S K)(hm:MdR w B kv vv m)(hfair:Fair m)(hK:K<=900000000):
  Calls Tryz.prog 11 #[.pointer (some ⟨ph.b,2,none⟩),.agg #[kv,vv]] w fun e w'=>EncOut w w' B ph (K+16*m.funcs.length+8) e:=by
 have hBp:=hd.lt
 have hBw:B<=w.heap.size:=by omega
 obtain⟨a1,c1,rfl⟩:=hm.k.shape
 obtain⟨a2,c2,rfl⟩:=hm.v.shape
 obtain⟨W0,hW0⟩:∃W0,W0=w.alloc (.cells #[.slice a1 m.kinds.length c1,.slice a2 m.funcs.length c2] 38):=⟨_,rfl⟩
 have hbw:Below w.heap.size w W0:=by rw[hW0];exact(Below.refl w.heap.size w).alloc (Nat.le_refl _) _
 have bx0:F2 W0 w.heap.size 38 (.slice a1 m.kinds.length c1) (.slice a2 m.funcs.length c2):=by rw[hW0];exact heap_alloc_new w _
 have hd0:=hd.below hbw
 have hmw:=((hm.wide hBw).below hbw).wide hbw.size
 have HW0:Hid _:=hW0
 clear hd hm hW0
 have f15:=hfair.le (N:=1500000) (by omega)
 have f14:=hfair.le (N:=1400000) (by omega)
 have fmx:=hfair.le (N:=maxLen) (by unfold maxLen;omega)
 have hn:=hfair.2.1
 have HF15:Hid _:=f15
 have HF14:Hid _:=f14
 have HFM:Hid _:=fmx
 have HFC:Hid (∀f∈m.funcs,f.code.length<=1048576):=fun f hf=>(hfair.2.2 f hf).2.2.2
 clear f15 f14 fmx hfair
 go_enter Tryz.func11,Tryz.ntmps11
 go_wp2_with fail
 rw[<-HW0.out]
 refine(lend_any m _ _ W0 hmw HF15.out.1 HF15.out.2.1 HF15.out.2.2).mono ?_
 rintro e w1 ⟨rfl,gk,gf,vi,vc,D,ms,s1,hD,ro1,hml,hms1,hb1⟩
 have hd1:=(hd0.more (S':=fun k=>k<W0.heap.size) (fun k h _=>h)).below hb1
 have hm1:=hmw.below hb1
 have hx1:=lent_reads s1 hD ro1 HFM.out.1 HFM.out.2.1 HFM.out.2.2
 have bx1:F2 w1 w.heap.size 38 _ _:=(hb1.block w.heap.size bx0.lt).trans bx0
 have hbw1:=hbw.trans (hb1.mono hbw.size)
 have d0:=s1.h.c0
 have d1:=s1.h.c1
 unfold front at d0 d1
 have HD:Hid _:=hD
 have HML:Hid _:=hml
 have E1:EB w W0 w1 B ph K gk gf vi vc (.slice a1 m.kinds.length c1) (.slice a2 m.funcs.length c2) m D ms _:=⟨s1,ro1,hms1,hd1,hx1,hm1.wide hb1.size,bx1,hbw1⟩
 have hzW:B<=W0.heap.size:=Nat.le_trans hBw hbw.size
 have hWz:=hbw.size
 clear hD hml hd0 hmw bx0 hbw HW0 s1 ro1 hms1 hd1 hx1 hm1 bx1 hbw1 hb1
 generalize hpe:Pu.encode m=pe
 have HPE:Hid _:=hpe
 go_wp2_with fail
 clear d0 d1
 refine(encode_any m _ _ w1 E1.hx).mono ?_
 rintro e w2 ⟨rfl,hb2⟩
 rw[HPE.out]
 have E2:=E1.below hb2
 clear E1 hb2
 have b0:=E2.bx.c0
 have b1:=E2.bx.c1
 go_wp2_with fail
 clear b0 b1
 refine(rencode_any m _ _ w2 E2.hm HFC.out).mono ?_
 rintro e w3 ⟨rfl,hb3⟩
 rw[Pu.renc_eq,HPE.out]
 have E3:=E2.below hb3
 clear E2 hb3
 have b0:=E3.bx.c0
 have b1:=E3.bx.c1
 go_wp2_with fail
 clear b0 b1
 refine(still_any _ _ _ _ _ _ _ _ m D ms _ w3 E3.s HD.out E3.ro HML.out E3.ms E3.hx E3.hm HF15.out.1 HF15.out.2.1 HF15.out.2.2).mono ?_
 rintro e w4 ⟨rfl,hb4⟩
 have E4:=E3.below hb4
 clear E3 hb4
 go_wp2_with fail
 refine(lent_any B W0.heap.size ph _ K _ _ _ _ m D ms _ w4 E4.hd E4.s HD.out E4.ro hzW (fun j hj=>hj) HF14.out.1 HF14.out.2.1 HF14.out.2.2 (by omega)).mono ?_
 rintro e w5 ⟨rfl,hd5,hb5⟩
 have hbf:Kt B w.heap.size ph.b w w5:=(Kt.of_below E4.bl).trans (hb5.more hWz)
 have HD5:Hid _:=hd5
 clear E4 hb5 hd5
 obtain⟨pb,pn⟩:=pe
 go_wp2_with fail
 refine(num_any pn _).mono ?_
 rintro e w6 ⟨rfl,rfl⟩
 go_wp2
 go_ret
 exact⟨rfl,HD5.out,hbf⟩
namespace La
section
variable {w w' W:World} {B wq i j:Nat} {L L':List Lx} {lv rv lv' rv' n vi vc vf n' vi' vc' vf':Value} {KB:Nat->Nat} {S:Nat->Prop} {K:Nat} {e:Ending}
theorem WI.held(h:WI w B wq L lv rv n vi vc vf)(hk:Kt B w.heap.size wq w w')(hb:w'.heap[wq]?=some (.cells #[lv,rv,n',vi',vc',vf'] 34 (0,0))):WI w' B wq L lv rv n' vi' vc' vf':=by
 have ty:∀k,(B<=k/\(k=wq\/HT w k\/w.heap.size<=k))->∀c t fr,w.heap[k]?=some (.cells c t fr)->t=34\/t=50\/t=54\/t=59:=by
  rintro k ⟨_,h1|⟨c',t',fr',h1,h2⟩|h1⟩ c t fr hc
  ·rw[h1,h.b]at hc
   simp only[Option.some.injEq,Obj.cells.injEq]at hc
   exact .inl hc.2.1.symm
  ·rw[h1]at hc
   simp only[Option.some.injEq,Obj.cells.injEq]at hc
   rw[<-hc.2.1]
   exact .inr h2
  ·have:=(Array.getElem?_eq_some_iff.1 hc).1
   omega
 have ho:Off w (fun k=>B<=k/\(k=wq\/HT w k\/w.heap.size<=k)):=fun k hx c t fr hc=>by rcases ty k hx c t fr hc with rfl|rfl|rfl|rfl<;>decide
 have row:∀{a size m:Nat} {v:Value} {xs:List Value},(a≠34/\a≠50/\a≠54/\a≠59)->w.ownsRow B a size v m xs->w'.ownsRow B a size v m xs:=fun he hr=>owns_block hr fun k hkk=>hk.block k (hr.lt k hkk).2 fun hx=>by
  obtain⟨c,hc⟩:=owns_ty hr hkk
  rcases ty k hx c _ _ hc with e|e|e|e
  ·exact he.1 e
  ·exact he.2.1 e
  ·exact he.2.2.1 e
  ·exact he.2.2.2 e
 refine⟨hb,row (by decide) h.ol,row (by decide) h.or,fun x hx=>(h.lp x hx).keep hk ho (fun hX=>?_) (fun hX=>?_),h.dq,h.ge,h.hB⟩
 ·obtain⟨mk,mv,Hs,a1,_⟩:=(h.lp x hx).pq
  rcases ty _ hX _ _ _ a1 with e|e|e|e<;>exact absurd e (by decide)
 ·obtain⟨dk,dv,hv,a1,_⟩:=(h.lp x hx).pr
  rcases ty _ hX _ _ _ a1 with e|e|e|e<;>exact absurd e (by decide)
def HId(B wq:Nat)(KB:Nat->Nat):HI:=fun w n vi vc vf i=>∃(lv rv:Value) (N:Int) (S:Nat->Prop) (ei ec ef:List (Value × Int)),n=.int .i64 N/\HR w B ⟨wq,lv,rv⟩ N vi vc vf ei ec ef/\HG w S ei ec ef/\ei.length<=KB i/\ec.length<=KB i/\ef.length<=KB i
theorem HId.hd(hI:HId B wq KB w n vi vc vf i)(h:WI w B wq L lv rv n vi vc vf):∃S,Hd w B ⟨wq,lv,rv⟩ S (KB i):=by
 obtain⟨lv',rv',N,S,ei,ec,ef,rfl,r,g,k⟩:=hI
 have h1:=r.h
 unfold HB at h1
 simp only at h1
 rw[h.b]at h1
 simp only[Option.some.injEq,Obj.cells.injEq,Array.mk.injEq,List.cons.injEq,and_true]at h1
 obtain⟨rfl,rfl⟩:=h1
 exact⟨S,N,vi,vc,vf,ei,ec,ef,r,g,k⟩
theorem HId.le(hI:HId B wq KB w n vi vc vf i)(hij:KB i<=KB j):HId B wq KB w n vi vc vf j:=by
 obtain⟨lv',rv',N,S,ei,ec,ef,hn,r,g,k1,k2,k3⟩:=hI
 exact⟨lv',rv',N,S,ei,ec,ef,hn,r,g,by omega,by omega,by omega⟩
theorem HId.below(hI:HId B wq KB w n vi vc vf i)(hb:Below w.heap.size w w'):HId B wq KB w' n vi vc vf i:=by
 obtain⟨lv',rv',N,S,ei,ec,ef,hn,r,g,k⟩:=hI
 exact⟨lv',rv',N,S,ei,ec,ef,hn,r.below hb,g.below hb,k⟩
theorem HId.led(hI:HId B wq KB w n vi vc vf i)(hF:Fr w w' (Xw w B))(hW:WI w' B wq L lv rv n vi vc vf):HId B wq KB w' n vi vc vf i:=by
 obtain⟨lv',rv',N,S,ei,ec,ef,rfl,r,g,k⟩:=hI
 have row:∀{a size m:Nat} {v:Value} {xs:List Value},(a≠34/\a≠108/\a≠111/\a≠63/\a≠67)->w.ownsRow B a size v m xs->w'.ownsRow B a size v m xs:=fun he hr=>owns_block hr fun k hkk=>hF.block k (hr.lt k hkk).2 fun⟨_,c,t,fr,h1,h2⟩=>by
  obtain⟨c',hc⟩:=owns_ty hr hkk
  rw[hc]at h1
  simp only[Option.some.injEq,Obj.cells.injEq]at h1
  rw[<-h1.2.1]at h2
  rcases h2 with e|e|e|e|e
  ·exact he.1 e
  ·exact he.2.1 e
  ·exact he.2.2.1 e
  ·exact he.2.2.2.1 e
  ·exact he.2.2.2.2 e
 refine⟨lv,rv,N,S,ei,ec,ef,rfl,⟨hW.b,row (by decide) r.oi,row (by decide) r.oc,row (by decide) r.of,hW.hB⟩,g.kept ⟨hF.size,fun k hk _ ⟨c,t,fr,h1,h2⟩=>hF.block k hk fun⟨_,c',t',fr',h3,h4⟩=>?_⟩,k⟩
 rw[h1]at h3
 simp only[Option.some.injEq,Obj.cells.injEq]at h3
 rw[<-h3.2.1]at h4
 rcases h2 with rfl|rfl|rfl<;>exact absurd h4 (by decide)
theorem PlOut.held(h:WI w B wq L lv rv n vi vc vf)(hd:Hd w' B ⟨wq,lv,rv⟩ S K)(hk:Kt B w.heap.size wq w w')(hK:K<=KB j):PlOut w w' B wq L (HId B wq KB) j (.returned (.bool true)):=by
 obtain⟨N,vi',vc',vf',ei,ec,ef,r,g,k1,k2,k3⟩:=hd
 refine⟨rfl,⟨L,lv,rv,.int .i64 N,vi',vc',vf',h.held hk r.h,by omega,lv,rv,N,S,ei,ec,ef,rfl,r,g,by omega,by omega,by omega⟩,hk.below ?_⟩
 have:=h.hB
 have:=h.lt
 omega
theorem PlOut.below(h:WI w B wq L lv rv n vi vc vf)(hI:HId B wq KB w n vi vc vf i)(hb:Below w.heap.size w w')(hij:KB i<=KB j):PlOut w w' B wq L (HId B wq KB) j (.returned (.bool true)):=
 ⟨rfl,⟨L,lv,rv,n,vi,vc,vf,h.below hb,by omega,(hI.below hb).le hij⟩,hb.mono (Nat.le_trans h.hB (Nat.le_of_lt h.lt))⟩
theorem PlOut.from{I:HI}(hb:Below w.heap.size w W)(hB:B<=w.heap.size)(h:PlOut W w' B wq L I i e):PlOut w w' B wq L I i e:=⟨h.1,h.2.1,(hb.mono hB).trans h.2.2⟩
end
theorem kt_keeps{w w':World}{B q k:Nat}{c:Array Value}{fr:Nat × Nat}(h:Kt B w.heap.size q w w')(hc:w.heap[k]?=some (.cells c 40 fr))(hq:q<k):w'.heap[k]?=some (.cells c 40 fr):=by
 have hl:=(Array.getElem?_eq_some_iff.1 hc).1
 rw[h.block k hl ?_,hc]
 rintro⟨_,h1|⟨c',t',fr',h1,h2⟩|h1⟩
 ·omega
 ·rw[hc]at h1
  simp only[Option.some.injEq,Obj.cells.injEq]at h1
  rw[<-h1.2.1]at h2
  exact absurd h2 (by decide)
 ·omega
theorem cell_of{w:World}{q i:Nat}{c:Array Value}{t:TypeId}{v:Value}(h:w.heap[q]?=some (.cells c t (0,0)))(hv:c[i]?=some v):w.cell? ⟨q,i,none⟩=some v:=by simp[World.cell?,h,hv]
theorem step6_any(w:World)(B wq:Nat)(L:List Lx)(lv rv n vi vc vf:Value)(h:WI w B wq L lv rv n vi vc vf)(hL:L.length<=10000000000000)(o:OpV)(hk:I64 o.k)(hs:o.s.size<=maxLen)(hm:MdR w B o.km o.vm o.m)(hfair:Fair o.m)(KB:Nat->Nat)(i:Nat)(hI:HId B wq KB w n vi vc vf i)(hK1:KB i+144+16*o.m.funcs.length<=KB (i+1))(hK:KB i<=900000000):
  Calls Tryz.prog 6 #[.pointer (some ⟨wq,0,none⟩),.agg o.cells] w fun e w'=>PlOut w w' B wq L (HId B wq KB) (i+1) e:=by
 have hwl:=h.lt
 have hBw:B<=w.heap.size:=by have:=h.hB;omega
 have hsh:∃x1 n1 y1 x2 n2 y2,o.km=.slice x1 n1 y1/\o.vm=.slice x2 n2 y2:=by
  obtain⟨a1,c1,e1⟩:=hm.k.shape
  obtain⟨a2,c2,e2⟩:=hm.v.shape
  exact⟨a1,_,c1,a2,_,c2,e1,e2⟩
 by_cases hkd:o.kind≠4/\o.kind≠5/\o.kind≠6
 ·refine(step3_any w B wq L lv rv n vi vc vf h hL o hk hs hsh hkd).mono ?_
  rintro e w' ⟨rfl,⟨L',lv',rv',hW',hL'⟩,hF⟩
  exact⟨rfl,⟨L',lv',rv',n,vi,vc,vf,hW',hL',(hI.led hF hW').le (by omega)⟩,hF.below (fun k hk=>hk.1) hBw⟩
 obtain⟨x1,n1,y1,x2,n2,y2,hm1,hm2⟩:=hsh
 obtain⟨kind,oa,ob,ok,s,mk,mv,m⟩:=o
 simp only[OpV.cells]at *
 subst hm1 hm2
 have al:=(Below.refl w.heap.size w).alloc (Nat.le_refl _) (.cells #[.int .i64 kind,.int .i64 oa,.int .i64 ob,.int .i64 ok,.string s,.slice x1 n1 y1,.slice x2 n2 y2] 40)
 have bx:=heap_alloc_new w (.cells #[.int .i64 kind,.int .i64 oa,.int .i64 ob,.int .i64 ok,.string s,.slice x1 n1 y1,.slice x2 n2 y2] 40)
 have o4:=cell_of bx (i:=4) (v:=.string s) rfl
 have o5:=cell_of bx (i:=5) (v:=.slice x1 n1 y1) rfl
 have o6:=cell_of bx (i:=6) (v:=.slice x2 n2 y2) rfl
 have ad:=al.drew
 have OC:=hid fun(w':World) (hk':Kt B _ wq (w.alloc (.cells #[.int .i64 kind,.int .i64 oa,.int .i64 ob,.int .i64 ok,.string s,.slice x1 n1 y1,.slice x2 n2 y2] 40)).drew w')=>kt_keeps hk' bx hwl
 have h0:=h.below al
 have hz:=h.below ad
 obtain⟨S,hd⟩:=hI.hd h
 have hd0:=hd.below ad
 by_cases h4:kind=4
 ·have CN:=hid (hdecode_any s B ⟨wq,lv,rv⟩ (KB i) S _ hd0 hs hK)
  have HP:=hid fun(w':World) (S':Nat->Prop) (hd':Hd w' B ⟨wq,lv,rv⟩ S' (KB i+136)) hk'=>(PlOut.held (KB:=KB) (j:=i+1) hz hd' hk' (by omega)).from ad hBw
  subst h4
  clear h h0 hz hd hd0 hI hm hfair hkd bx ad
  go_enter Tryz.func6,Tryz.ntmps6
  go_wp2_with fail
  go_region_held3 (fun w'=>w'.cell? ⟨w.heap.size,4,none⟩=some (.string s)) (first|exact o4|exact cell_of (i:=4) (v:=.string s) (OC.out _ hk') rfl)
   ((go_at_call 10;refine CN.out.mono ?_;rintro e w1 ⟨rfl,⟨S',hd'⟩,hk'⟩))
  have FIN:=hid (HP.out _ _ hd' hk')
  clear CN HP hd' hk'
  go_wp2
  go_ret
  exact FIN.out
 by_cases h5:kind=5
 ·have CN:=hid (hencode_any m _ _ B ⟨wq,lv,rv⟩ (KB i) S _ hd0 (hm.below (ad.mono hBw)) hfair hK)
  have HP:=hid fun(w':World) (S':Nat->Prop) (hd':Hd w' B ⟨wq,lv,rv⟩ S' (KB i+16*m.funcs.length+8)) hk'=>(PlOut.held (KB:=KB) (j:=i+1) hz hd' hk' (by omega)).from ad hBw
  subst h5
  clear h h0 hz hd hd0 hI hm hfair hkd bx ad h4
  go_enter Tryz.func6,Tryz.ntmps6
  go_wp2_with fail
  go_region_held3 (fun w'=>w'.cell? ⟨w.heap.size,5,none⟩=some (.slice x1 n1 y1)/\w'.cell? ⟨w.heap.size,6,none⟩=some (.slice x2 n2 y2)) (first|exact⟨o5,o6⟩|exact⟨cell_of (i:=5) (v:=.slice x1 n1 y1) (OC.out _ hk') rfl,cell_of (i:=6) (v:=.slice x2 n2 y2) (OC.out _ hk') rfl⟩)
   ((go_at_call 11;refine CN.out.mono ?_;rintro e w1 ⟨rfl,⟨S',hd'⟩,hk'⟩))
  have FIN:=hid (HP.out _ _ hd' hk')
  clear CN HP hd' hk'
  go_wp2
  go_ret
  exact FIN.out
 have h6:kind=6:=by omega
 have CN:=hid fun W=>lcheck_any s W hs
 have HP:=hid fun(w':World) (hb:Below _ _ w')=>(PlOut.below (j:=i+1) h0 (hI.below al) hb (by omega)).from al hBw
 subst h6
 clear h h0 hz hd hd0 hI hm hfair hkd bx ad h4 h5
 go_enter Tryz.func6,Tryz.ntmps6
 go_wp2_with fail
 refine(CN.out _).mono ?_
 rintro e w1 ⟨rfl,hb⟩
 have FIN:=hid (HP.out _ hb)
 clear CN HP hb
 go_wp2
 go_ret
 exact FIN.out
def cost(o:OpV):Nat:=144+16*o.m.funcs.length
def kb(ops:List OpV)(i:Nat):Nat:=((ops.take i).map cost).sum
theorem kb_le(ops:List OpV)(i:Nat):kb ops i<=(ops.map cost).sum:=by
 have h:(ops.map cost).sum=((ops.take i++ops.drop i).map cost).sum:=by rw[List.take_append_drop]
 rw[h,List.map_append,List.sum_append]
 exact Nat.le_add_right _ _
theorem kb_at{ops:List OpV}{i:Nat}{o:OpV}(h:ops[i]?=some o):kb ops i+144+16*o.m.funcs.length=kb ops (i+1):=by
 unfold kb
 rw[List.take_add_one,h,List.map_append,List.sum_append]
 simp[cost]
 omega
theorem kb_up(ops:List OpV)(i:Nat):kb ops i<=kb ops (i+1):=by
 unfold kb
 rw[List.take_add_one,List.map_append,List.sum_append]
 exact Nat.le_add_right _ _
theorem all_walk(ops:List OpV)(v:Value)(w:World)(hops:OpsR w w.heap.size v ops)(hn:ops.length<=9000000000000)(hok:∀o∈ops,I64 o.k/\o.s.size<=maxLen/\MdR w w.heap.size o.km o.vm o.m/\Fair o.m)(hK:(ops.map cost).sum<=900000000):
  Calls Tryz.prog 4 #[v] w fun e w'=>e=.returned (.bool true)/\Below w.heap.size w w':=by
 have CP:=hid (plays_any (HId w.heap.size w.heap.size (kb ops)) 6 ops v w hops hn
  ⟨.slice none 0 0,.slice none 0 0,0,fun _=>False,[],[],[],rfl,⟨heap_alloc_new w _,World.ownsRow_nil _ _ _ _,World.ownsRow_nil _ _ _ _,World.ownsRow_nil _ _ _ _,Nat.le_refl _⟩,⟨by simp,by simp,by simp⟩,Nat.zero_le _,Nat.zero_le _,Nat.zero_le _⟩
  (fun _ _ _ _ _ _ _ h hb=>h.below hb) (fun _ _ _ _ _ i h=>h.le (kb_up ops i))
  (fun i o W L lv rv n vi vc vf ho _ hW hI hL hb=>by
   obtain⟨h1,h2,h3,h4⟩:=hok o (List.mem_of_getElem? ho)
   exact step6_any W _ _ L lv rv n vi vc vf hW hL o h1 h2 (h3.below hb) h4 (kb ops) i hI (Nat.le_of_eq (kb_at ho)) (Nat.le_trans (kb_le ops i) hK))
  (fun i W L lv rv n vi vc vf hW hI _=>by
   obtain⟨S,hd⟩:=hI.hd hW
   exact dry_any _ ⟨w.heap.size,lv,rv⟩ _ _ W hd (by have:=kb_le ops i;omega)))
 obtain⟨ao,cap,b,off,rfl,_,_⟩:=hops
 go_enter Tryz.func4,Tryz.ntmps4
 go_wp2_with fail
 refine CP.out.mono ?_
 rintro e w1 ⟨rfl,hb⟩
 clear CP
 go_wp2
 go_ret
 exact⟨rfl,hb⟩
end La
end Go.Proofs.YtjamgmbdilkbcaaGreat
namespace Go.Proofs.YtjamgmbdilkbcaaGreat
open Go.ChangeShapes Go.WideShapes Go.ChangeAt Go.RowKit Go.Deep Go.Joins
theorem Tryz.cells3:Tryz.prog.cellsOf 3=1:=by kernel_rfl
theorem Tryz.cells35:Tryz.prog.cellsOf 35=1:=by kernel_rfl
theorem Tryz.cells36:Tryz.prog.cellsOf 36=1:=by kernel_rfl
theorem Tryz.cells52:Tryz.prog.cellsOf 52=1:=by kernel_rfl
theorem Tryz.cells56:Tryz.prog.cellsOf 56=2:=by kernel_rfl
theorem Tryz.cells62:Tryz.prog.cellsOf 62=4:=by kernel_rfl
theorem Tryz.cells38:Tryz.prog.cellsOf 38=2:=by kernel_rfl
section
variable {H:Type} {enc:TypeId × Value->H} {w:World} {spare:Nat->Bool} {held:Bool}
theorem bulkAll_len(l:List (DataW H)):l.length<=Rows.uptoBulkAll l:=by
 induction l with
 | nil=>simp[Rows.uptoBulkAll]
 | cons d l ih=>
  have h1:1<=Rows.uptoBulk d:=by
   cases d with
   | lit x=>cases x<;>simp[Rows.uptoBulk]
   | nil=>simp[Rows.uptoBulk]
   | ptr d=>simp[Rows.uptoBulk]
   | slice a b=>simp[Rows.uptoBulk]
   | agg a=>simp[Rows.uptoBulk]
   | iface a b=>simp[Rows.uptoBulk]
   | map a=>simp[Rows.uptoBulk]
   | held a=>simp[Rows.uptoBulk]
  simp only[Rows.uptoBulkAll,List.length_cons]
  omega
theorem bulk_mem{d:DataW H}{l:List (DataW H)}(h:d∈l):Rows.uptoBulk d<=Rows.uptoBulkAll l:=by
 induction l with
 | nil=>simp at h
 | cons e l ih=>
  simp only[Rows.uptoBulkAll]
  rcases List.mem_cons.1 h with rfl|h
  ·omega
  ·have:=ih h;omega
theorem spot_none{a:Addr}{u:Value}(hu:w.cell? (a.add 0)=some u):∃b off,a=⟨b,off,none⟩:=by
 obtain⟨b,off,spot⟩:=a
 have hspot:spot=none:=by simpa[Addr.add]using World.cell?_spot hu
 subst hspot
 exact⟨b,off,rfl⟩
theorem read_ints{fuel:Nat}{v:Value}{x:DataW H × List MemPlace}(h:DataW.trod enc Tryz.prog w 0 spare held fuel 35 [v]=some x):
  ∃l,IntsR w w.heap.size v l/\l.length<=maxLen/\l.length<=Rows.uptoBulk x.1:=by
 rcases open_ints Tryz.underlying35 Tryz.underlying3 Tryz.cells3 h with ⟨hcs,rfl⟩|⟨a,len,cap,zs,hcs,_,hl,hm,hz,rfl,hcell,_⟩
 ·simp only[List.cons.injEq,and_true]at hcs
  subst hcs
  exact⟨[],⟨none,0,0,0,rfl,fun h=>absurd h (by simp),fun j hj=>absurd hj (by simp)⟩,by simp,by simp⟩
 ·simp only[List.cons.injEq,and_true]at hcs
  subst hcs
  have hzl:len<=zs.length:=by rw[hz];split<;>omega
  have hlen:(zs.take len).length=len:=by simp;omega
  refine⟨zs.take len,?_,by omega,?_⟩
  ·by_cases h0:0<len
   ·obtain⟨b,off,rfl,hc⟩:=ints_at hcell (by omega)
    refine⟨some ⟨b,off,none⟩,cap,b,off,by rw[hlen],fun _=>⟨rfl,?_⟩,fun j hj=>?_⟩
    ·exact World.block_lt_of_cell? w ⟨b,off+0,none⟩ (hc 0 (by omega))
    ·rw[hc j (by omega),getD_take_lt _ _ _ _ (by omega)]
   ·have:len=0:=by omega
    subst this
    exact⟨some a,cap,0,0,by simp,fun h=>absurd h (by simp),fun j hj=>absurd hj (by simp)⟩
  ·have:=bulkAll_len (lits (H:=H) .i64 (zs.take len))
   simp only[Rows.uptoBulk]
   simp only[lits,List.length_map]at this ⊢
   omega
theorem read_code{fuel:Nat}{v:Value}{x:DataW H × List MemPlace}(h:DataW.trod enc Tryz.prog w 0 spare held fuel 52 [v]=some x):
  ∃l,CodeR w w.heap.size v l/\l.length<=maxLen/\l.length<=Rows.uptoBulk x.1:=by
 rcases open_slice_pairs Tryz.underlying52 Tryz.underlying56 Tryz.cells56 rfl rfl Tryz.cells3 Tryz.cells3 h with ⟨hcs,rfl⟩|⟨a,len,cap,m,n,V0,V1,D0,D1,P0,P1,hcs,_,hl,hm,hmm,rfl,hx⟩
 ·simp only[List.cons.injEq,and_true]at hcs
  subst hcs
  exact⟨[],⟨none,0,0,0,rfl,fun h=>absurd h (by simp),fun j hj=>absurd hj (by simp)⟩,by simp,by simp⟩
 ·simp only[List.cons.injEq,and_true]at hcs
  subst hcs
  have hlm:len<=m:=by rw[hmm];split<;>omega
  have each:∀i,i<len->∃y:Int × Int,w.cell? (a.add (i*2))=some (.int .i64 y.1)/\w.cell? (a.add (i*2+1))=some (.int .i64 y.2):=by
   intro i hi
   obtain⟨g0,g1,t0,t1⟩:=hx i (by omega)
   obtain⟨n0,e0,_,_⟩:=DataW.trod_int Tryz.underlying3 t0
   obtain⟨n1,e1,_,_⟩:=DataW.trod_int Tryz.underlying3 t1
   simp only[List.cons.injEq,and_true]at e0 e1
   rw[e0]at g0
   rw[e1]at g1
   exact⟨(n0,n1),g0,g1⟩
  obtain⟨F,hF⟩:=choose_lt each
  have hlen:((List.range len).map F).length=len:=by simp
  refine⟨(List.range len).map F,?_,by omega,?_⟩
  ·by_cases h0:0<len
   ·obtain⟨b,off,rfl⟩:=spot_none (a:=a) (by have:=(hF 0 h0).1;simpa using this)
    refine⟨some ⟨b,off,none⟩,cap,b,off,by rw[hlen],fun _=>⟨rfl,?_⟩,fun j hj=>?_⟩
    ·have:=World.block_lt_of_cell? w _ (hF 0 h0).1
     rw[add_plain]at this
     exact this
    ·have hj':j<len:=by omega
     have:=hF j hj'
     rw[add_plain,add_plain]at this
     have e:((List.range len).map F).getD j (0,0)=F j:=by simp[List.getD_eq_getElem?_getD,hj']
     rw[e]
     exact⟨this.1,by simpa[Nat.add_assoc]using this.2⟩
   ·have:len=0:=by omega
    subst this
    exact⟨some a,cap,0,0,by simp,fun h=>absurd h (by simp),fun j hj=>absurd hj (by simp)⟩
  ·have:=bulkAll_len ((List.range len).map fun i=>DataW.agg (H:=H) [D0 i,D1 i])
   simp only[Rows.uptoBulk]
   simp only[List.length_map,List.length_range]at this ⊢
   omega
def FnSmall(N:Nat)(f:Pu.Fn):Prop:=f.params.length<=N/\f.results.length<=N/\f.locals.length<=N/\f.code.length<=N
theorem read_fn{fuel:Nat}{c0 c1 c2 c3:Value}{x:DataW H × List MemPlace}(h:DataW.trod enc Tryz.prog w 0 spare held fuel 62 [c0,c1,c2,c3]=some x):
  ∃f,FnR w w.heap.size ⟨c0,c1,c2,c3⟩ f/\FnSmall (Rows.uptoBulk x.1) f:=by
 obtain⟨y0,y1,y2,y3,n,rfl,_,h0,h1,h2,h3⟩:=trod_struct4 Tryz.underlying62 h
 simp only[Tryz.cells35,Tryz.cells52,List.drop_zero,List.drop_succ_cons,List.take_succ_cons,List.take_zero]at h0 h1 h2 h3
 obtain⟨l0,r0,m0,b0⟩:=read_ints h0
 obtain⟨l1,r1,m1,b1⟩:=read_ints h1
 obtain⟨l2,r2,m2,b2⟩:=read_ints h2
 obtain⟨l3,r3,m3,b3⟩:=read_code h3
 refine⟨⟨l0,l1,l2,l3⟩,⟨r0,r1,r2,r3,m0,m1,m2,m3⟩,?_⟩
 simp only[FnSmall,Rows.uptoBulk,Rows.uptoBulkAll]
 omega
theorem read_fns{fuel:Nat}{v:Value}{x:DataW H × List MemPlace}(h:DataW.trod enc Tryz.prog w 0 spare held fuel 36 [v]=some x):
  ∃fs,FnsR w w.heap.size v fs/\fs.length<=maxLen/\fs.length<=Rows.uptoBulk x.1/\∀f∈fs,FnSmall (Rows.uptoBulk x.1) f:=by
 rcases open_slice Tryz.underlying36 h with ⟨hcs,rfl⟩|⟨a,len,cap,m,n,D,Pl,hcs,_,hl,hm,hmm,rfl,hx⟩
 ·simp only[List.cons.injEq,and_true]at hcs
  subst hcs
  exact⟨[],⟨none,0,0,0,rfl,fun h=>absurd h (by simp),fun j hj=>absurd hj (by simp)⟩,by simp,by simp,by simp⟩
 ·simp only[List.cons.injEq,and_true]at hcs
  subst hcs
  have hlm:len<=m:=by rw[hmm];split<;>omega
  have each:∀i,i<len->∃y:Pu.Fn,∃z:FV,w.cell? (a.add (i*4))=some z.p/\w.cell? (a.add (i*4+1))=some z.r/\w.cell? (a.add (i*4+2))=some z.l/\w.cell? (a.add (i*4+3))=some z.c/\FnR w w.heap.size z y/\FnSmall (Rows.uptoBulk (D i)) y:=by
   intro i hi
   obtain⟨cs',h1,h2⟩:=hx i (by omega)
   rw[Tryz.cells62]at h1
   obtain⟨_,hlen,hcell⟩:=World.cells?_some h1
   match cs',hlen with
   | [c0,c1,c2,c3],_=>
    obtain⟨f,hf,hs⟩:=read_fn h2
    have e0:=hcell 0 (by omega)
    have e1:=hcell 1 (by omega)
    have e2:=hcell 2 (by omega)
    have e3:=hcell 3 (by omega)
    rw[Go.Deep.add_add]at e0 e1 e2 e3
    exact⟨f,⟨c0,c1,c2,c3⟩,by simpa using e0,by simpa using e1,by simpa using e2,by simpa using e3,hf,hs⟩
  have:Inhabited Pu.Fn:=⟨⟨[],[],[],[]⟩⟩
  obtain⟨F,hF⟩:=choose_lt each
  have hlen:((List.range len).map F).length=len:=by simp
  refine⟨(List.range len).map F,?_,by omega,?_,?_⟩
  ·by_cases h0:0<len
   ·obtain⟨z,g0,_⟩:=hF 0 h0
    obtain⟨b,off,rfl⟩:=spot_none (a:=a) (by simpa using g0)
    refine⟨some ⟨b,off,none⟩,cap,b,off,by rw[hlen],fun _=>⟨rfl,?_⟩,fun j hj=>?_⟩
    ·have:=World.block_lt_of_cell? w _ g0
     rw[add_plain]at this
     exact this
    ·have hj':j<len:=by omega
     obtain⟨z,g0,g1,g2,g3,hz,_⟩:=hF j hj'
     rw[add_plain]at g0 g1 g2 g3
     have e:((List.range len).map F).getD j ⟨[],[],[],[]⟩=F j:=by simp[List.getD_eq_getElem?_getD,hj']
     rw[e]
     exact⟨z,g0,by simpa[Nat.add_assoc]using g1,by simpa[Nat.add_assoc]using g2,by simpa[Nat.add_assoc]using g3,hz⟩
   ·have:len=0:=by omega
    subst this
    exact⟨some a,cap,0,0,by simp,fun h=>absurd h (by simp),fun j hj=>absurd hj (by simp)⟩
  ·have:=bulkAll_len ((List.range len).map D)
   simp only[Rows.uptoBulk]
   simp only[List.length_map,List.length_range]at this ⊢
   omega
  ·intro f hf
   obtain⟨i,hi,rfl⟩:=List.mem_map.1 hf
   have hi':i<len:=by simpa using hi
   obtain⟨z,_,_,_,_,_,hs⟩:=hF i hi'
   have hb:=bulk_mem (d:=D i) (l:=(List.range len).map D) (List.mem_map.2 ⟨i,hi,rfl⟩)
   simp only[FnSmall,Rows.uptoBulk]at hs ⊢
   omega
end
namespace La
theorem Tryz.cells40:Tryz.prog.cellsOf 40=7:=by kernel_rfl
theorem Tryz.cells9:Tryz.prog.cellsOf 9=1:=by kernel_rfl
section
variable {H:Type} {P:Program} {enc:TypeId × Value->H} {w:World} {base:Nat} {spare:Nat->Bool} {held:Bool}
theorem trod_struct6{t:TypeId}{f0 f1 f2 f3 f4 f5:Field}{fuel:Nat}{cs:List Value}{x:DataW H × List MemPlace}(ht:P.underlying t=some (.struct #[f0,f1,f2,f3,f4,f5]))(h:DataW.trod enc P w base spare held fuel t cs=some x):
  ∃y0 y1 y2 y3 y4 y5 n,x.1=.agg [y0.1,y1.1,y2.1,y3.1,y4.1,y5.1]/\DataW.trod enc P w base spare held n f0.type ((cs.drop f0.offset).take (P.cellsOf f0.type))=some y0/\
   DataW.trod enc P w base spare held n f1.type ((cs.drop f1.offset).take (P.cellsOf f1.type))=some y1/\DataW.trod enc P w base spare held n f2.type ((cs.drop f2.offset).take (P.cellsOf f2.type))=some y2/\
   DataW.trod enc P w base spare held n f3.type ((cs.drop f3.offset).take (P.cellsOf f3.type))=some y3/\DataW.trod enc P w base spare held n f4.type ((cs.drop f4.offset).take (P.cellsOf f4.type))=some y4/\
   DataW.trod enc P w base spare held n f5.type ((cs.drop f5.offset).take (P.cellsOf f5.type))=some y5:=by
 obtain⟨xs,n,_,rfl,hl,hlen,hf⟩:=DataW.trod_struct ht h
 match xs,hlen with
 | [y0,y1,y2,y3,y4,y5],_=>exact⟨y0,y1,y2,y3,y4,y5,n,by simp,by simpa using hf 0 f0 rfl,by simpa using hf 1 f1 rfl,by simpa using hf 2 f2 rfl,by simpa using hf 3 f3 rfl,by simpa using hf 4 f4 rfl,by simpa using hf 5 f5 rfl⟩
end
section
variable {H:Type} {enc:TypeId × Value->H} {w:World} {spare:Nat->Bool} {held:Bool}
theorem wf_i64{n:Int}(h:(Lit.int .i64 n).wf=true):I64 n:=by
 simp only[Lit.wf,Bool.and_eq_true,decide_eq_true_eq]at h
 exact h
structure OpOk (w:World) (o:OpV) (bulk:Nat):Prop where
 k:I64 o.k
 s:o.s.size<=maxLen
 m:MdR w w.heap.size o.km o.vm o.m
 f:o.m.funcs.length<=bulk
 ks:o.m.kinds.length<=bulk
 fs:∀f∈o.m.funcs,FnSmall bulk f
theorem OpOk.shape{o:OpV}{bulk:Nat}(h:OpOk w o bulk):∃x1 n1 y1 x2 n2 y2,o.km=.slice x1 n1 y1/\o.vm=.slice x2 n2 y2:=by
 obtain⟨a1,c1,e1⟩:=h.m.k.shape
 obtain⟨a2,c2,e2⟩:=h.m.v.shape
 exact⟨a1,_,c1,a2,_,c2,e1,e2⟩
theorem bulkAll_cons(d:DataW H)(l:List (DataW H)):Rows.uptoBulkAll (d::l)=Rows.uptoBulk d+Rows.uptoBulkAll l:=by simp[Rows.uptoBulkAll]
theorem read_ops{fuel:Nat}{v:Value}{x:DataW H × List MemPlace}(h:DataW.trod enc Tryz.prog w 0 spare held fuel 22 [v]=some x):
  ∃(ops:List OpV) (ds:List (DataW H)),OpsR w w.heap.size v ops/\ds.length=ops.length/\(∀(j:Nat) (o:OpV) (d:DataW H),ops[j]?=some o->ds[j]?=some d->OpOk w o (Rows.uptoBulk d))/\Rows.uptoBulkAll ds<=Rows.uptoBulk x.1/\(x.1=.nil/\ops=[]\/∃sp,x.1=.slice ds sp):=by
 rcases open_slice Tryz.underlying22 h with ⟨hcs,rfl⟩|⟨a,len,cap,m,n,D,Pl,hcs,_,hl,hm,hmm,rfl,hx⟩
 ·simp only[List.cons.injEq,and_true]at hcs
  subst hcs
  exact⟨[],[],⟨none,0,0,0,rfl,fun h=>absurd h (by simp),fun j hj=>absurd hj (by simp)⟩,rfl,fun j o d ho _=>by simp at ho,by simp[Rows.uptoBulkAll],.inl ⟨rfl,rfl⟩⟩
 ·simp only[List.cons.injEq,and_true]at hcs
  subst hcs
  have hlm:len<=m:=by rw[hmm];split<;>omega
  have each:∀i,i<len->∃o:OpV,w.cell? (a.add (i*7))=some (.int .i64 o.kind)/\w.cell? (a.add (i*7+1))=some (.int .i64 o.a)/\w.cell? (a.add (i*7+2))=some (.int .i64 o.b)/\w.cell? (a.add (i*7+3))=some (.int .i64 o.k)/\w.cell? (a.add (i*7+4))=some (.string o.s)/\w.cell? (a.add (i*7+5))=some o.km/\w.cell? (a.add (i*7+6))=some o.vm/\OpOk w o (Rows.uptoBulk (D i)):=by
   intro i hi
   obtain⟨cs',h1,h2⟩:=hx i (by omega)
   rw[Tryz.cells40]at h1
   obtain⟨_,hlen,hcell⟩:=World.cells?_some h1
   match cs',hlen with
   | [c0,c1,c2,c3,c4,c5,c6],_=>
    obtain⟨y0,y1,y2,y3,y4,y5,n',hD,t0,t1,t2,t3,t4,t5⟩:=trod_struct6 Tryz.underlying40 h2
    simp only[Tryz.cells3,Tryz.cells9,Tryz.cells38,List.drop_zero,List.drop_succ_cons,List.take_succ_cons,List.take_zero]at t0 t1 t2 t3 t4 t5
    obtain⟨n0,e0,_,_⟩:=DataW.trod_int Tryz.underlying3 t0
    obtain⟨n1,e1,_,_⟩:=DataW.trod_int Tryz.underlying3 t1
    obtain⟨n2,e2,_,_⟩:=DataW.trod_int Tryz.underlying3 t2
    obtain⟨n3,e3,_,f3⟩:=DataW.trod_int Tryz.underlying3 t3
    obtain⟨s4,e4,_,f4⟩:=DataW.trod_string Tryz.underlying9 t4
    obtain⟨z0,z1,n'',hz,_,u0,u1⟩:=trod_struct2 Tryz.underlying38 t5
    simp only[Tryz.cells35,Tryz.cells36,List.drop_zero,List.drop_succ_cons,List.take_succ_cons,List.take_zero]at u0 u1
    obtain⟨l,r0,m0,b0⟩:=read_ints u0
    obtain⟨fs,r1,m1,b1,sm1⟩:=read_fns u1
    simp only[List.cons.injEq,and_true]at e0 e1 e2 e3 e4
    subst e0 e1 e2 e3 e4
    have g0:=hcell 0 (by omega)
    have g1:=hcell 1 (by omega)
    have g2:=hcell 2 (by omega)
    have g3:=hcell 3 (by omega)
    have g4:=hcell 4 (by omega)
    have g5:=hcell 5 (by omega)
    have g6:=hcell 6 (by omega)
    rw[Go.Deep.add_add]at g0 g1 g2 g3 g4 g5 g6
    simp only at hD hz
    have hbk:Rows.uptoBulk z0.1<=Rows.uptoBulk (D i)/\Rows.uptoBulk z1.1<=Rows.uptoBulk (D i):=by
     have e5:y5.1=.agg [z0.1,z1.1]:=by rw[hz]
     rw[hD,e5]
     simp only[Rows.uptoBulk,Rows.uptoBulkAll]
     omega
    refine⟨⟨n0,n1,n2,n3,s4,c5,c6,⟨l,fs⟩⟩,by simpa using g0,by simpa using g1,by simpa using g2,by simpa using g3,by simpa using g4,by simpa using g5,by simpa using g6,⟨wf_i64 f3,f4,⟨r0,r1,m0,m1⟩,by show fs.length<=_;omega,by show l.length<=_;omega,fun f hf=>?_⟩⟩
    have:=sm1 f hf
    unfold FnSmall at this ⊢
    omega
  have:Inhabited OpV:=⟨⟨0,0,0,0,⟨#[]⟩,.slice none 0 0,.slice none 0 0,⟨[],[]⟩⟩⟩
  obtain⟨F,hF⟩:=choose_lt each
  have hlen:((List.range len).map F).length=len:=by simp
  refine⟨(List.range len).map F,(List.range len).map D,?_,by simp,?_,?_,.inr ⟨_,rfl⟩⟩
  ·by_cases h0:0<len
   ·obtain⟨g0,_⟩:=hF 0 h0
    obtain⟨b,off,rfl⟩:=spot_none (a:=a) (by simpa using g0)
    refine⟨some ⟨b,off,none⟩,cap,b,off,by rw[hlen],fun _=>⟨rfl,?_⟩,fun j hj=>?_⟩
    ·have:=World.block_lt_of_cell? w _ g0
     rw[add_plain]at this
     exact this
    ·have hj':j<len:=by omega
     obtain⟨g0,g1,g2,g3,g4,g5,g6,hz⟩:=hF j hj'
     rw[add_plain]at g0 g1 g2 g3 g4 g5 g6
     exact⟨F j,by simp[hj'],g0,by simpa[Nat.add_assoc]using g1,by simpa[Nat.add_assoc]using g2,by simpa[Nat.add_assoc]using g3,by simpa[Nat.add_assoc]using g4,by simpa[Nat.add_assoc]using g5,by simpa[Nat.add_assoc]using g6,hz.shape⟩
   ·have:len=0:=by omega
    subst this
    exact⟨some a,cap,0,0,by simp,fun h=>absurd h (by simp),fun j hj=>absurd hj (by simp)⟩
  ·intro j o d ho hd
   have hj:j<len:=by
    have:=(List.getElem?_eq_some_iff.1 ho).1
    simpa using this
   simp only[List.getElem?_map,List.getElem?_range hj,Option.map_some,Option.some.injEq]at ho hd
   rw[<-ho,<-hd]
   exact(hF j hj).2.2.2.2.2.2.2
  ·simp only[Rows.uptoBulk]
   omega
end
end La
end Go.Proofs.YtjamgmbdilkbcaaGreat
