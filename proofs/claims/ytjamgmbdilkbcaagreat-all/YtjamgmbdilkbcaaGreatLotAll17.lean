import Derived.Test.YtjamgmbdilkbcaaGreatLotAll14
import Derived.Test.YtjamgmbdilkbcaaGreatLotAll16
import Derived.Test.YtjamgmbdilkbcaaGreatLotAll06
import Derived.Test.YtjamgmbdilkbcaaGreatLotAll05
set_option maxHeartbeats 2000000
set_option maxRecDepth 100000
namespace Go.Proofs.YtjamgmbdilkbcaaGreat
open Go.RowKit
theorem isMd_kinds{m:Pu.Md}(h:Pu.isMd m=true):KindsOk m:=by
 simp only[Pu.isMd,Bool.and_eq_true,decide_eq_true_eq,List.all_eq_true]at h
 obtain⟨h1,_⟩:=h
 simp only[Pu.isList,Bool.and_eq_true,decide_eq_true_eq,List.all_eq_true]at h1
 intro k hk
 exact h1.2 k hk
theorem isMd_fn{m:Pu.Md}(h:Pu.isMd m=true){f:Pu.Fn}(hf:f∈m.funcs):FnOk m f:=by
 simp only[Pu.isMd,Bool.and_eq_true,decide_eq_true_eq,List.all_eq_true]at h
 obtain⟨_,_,_,h4⟩:=h
 have hh:=h4 f hf
 simp only[Pu.isFn,Pu.isList,Pu.isCode,Bool.and_eq_true,decide_eq_true_eq,List.all_eq_true]at hh
 obtain⟨⟨p1,_⟩,⟨r1,_⟩,⟨l1,_⟩,c1,c2,c3⟩:=hh
 have hi:∀i,i<f.code.length->Pu.isInstr m.kinds.length m.funcs.length ((f.params.length:Int)+(f.locals.length:Int)) f.code.length (f.code.getD i (0,0))=true:=fun i hi=>by
  refine c3 _ ?_
  rw[List.getD_eq_getElem?_getD,List.getElem?_eq_getElem hi]
  exact List.getElem_mem hi
 refine⟨by unfold Fl.places;rw[List.length_append];omega,by omega,by omega,fun i hil=>?_,fun i hil hop=>?_⟩
 ·have hx:=hi i hil
  generalize f.code.getD i (0,0)=x at *
  simp only[Pu.isInstr,Bool.and_eq_true,decide_eq_true_eq]at hx
  obtain⟨⟨⟨x1,x2⟩,x3⟩,x4⟩:=hx
  refine⟨⟨x1,x2⟩,fun hop=>?_,fun hop=>?_⟩
  ·unfold Pu.argLo at x3
   unfold Pu.argHi at x4
   rw[if_neg (by omega)]at x3
   rw[if_neg (by omega),if_neg (by omega),if_pos hop]at x4
   unfold Fl.places
   rw[List.length_append]
   omega
  ·unfold Pu.argLo at x3
   unfold Pu.argHi at x4
   rw[if_neg (by omega)]at x3
   rw[if_neg (by omega),if_neg (by omega),if_neg (by omega),if_neg (by omega),if_pos hop]at x4
   omega
 ·have hx:=hi i hil
  generalize f.code.getD i (0,0)=x at *
  simp only[Pu.isInstr,Bool.and_eq_true,decide_eq_true_eq]at hx
  obtain⟨⟨⟨x1,x2⟩,x3⟩,x4⟩:=hx
  unfold Pu.argLo at x3
  rw[if_neg (by omega)]at x3
  exact x3
def FirstBad(m:Pu.Md)(i:Nat):Prop:=i<m.funcs.length/\¬Fl.Sound m (m.funcs.getD i ⟨[],[],[],[]⟩)/\∀j,j<i->Fl.Sound m (m.funcs.getD j ⟨[],[],[],[]⟩)
def AllGood(m:Pu.Md):Prop:=∀j,j<m.funcs.length->Fl.Sound m (m.funcs.getD j ⟨[],[],[],[]⟩)
def FlowSays(m:Pu.Md)(e p:Int):Prop:=(e=3/\∃i:Nat,p=i/\FirstBad m i)\/(e=0/\p=0/\AllGood m)
theorem FlowSays.one{m:Pu.Md}{e p e' p':Int}(h:FlowSays m e p)(h':FlowSays m e' p'):e=e'/\p=p':=by
 rcases h with ⟨rfl,i,rfl,h1,h2,h3⟩|⟨rfl,rfl,h⟩
 ·rcases h' with ⟨rfl,j,rfl,k1,k2,k3⟩|⟨rfl,rfl,k⟩
  ·refine⟨rfl,?_⟩
   by_cases hij:i<j
   ·exact absurd (k3 i hij) h2
   ·by_cases hji:j<i
    ·exact absurd (h3 j hji) k2
    ·omega
  ·exact absurd (k i h1) h2
 ·rcases h' with ⟨rfl,j,rfl,k1,k2,k3⟩|⟨rfl,rfl,k⟩
  ·exact absurd (h j k1) k2
  ·exact⟨rfl,rfl⟩
def FlowOut(w w':World)(m:Pu.Md)(r:Ending):Prop:=∃e p,r=.returned (.tuple #[.int .i64 e,.int .i64 p])/\FlowSays m e p/\Below w.heap.size w w'
theorem fcheckm_any(m:Pu.Md)(mk mv:Value)(w:World)(hm:MdR w w.heap.size mk mv m)(h:Pu.isMd m=true):
  Calls Tryz.prog 38 #[.agg #[mk,mv]] w fun e w'=>FlowOut w w' m e:=by
 have hsm:=(is_small h).2
 obtain⟨a1,c1,rfl⟩:=hm.k.shape
 obtain⟨ao,cap,b,off,hvv,h1,h2⟩:=hm.v
 subst hvv
 have H1:=hid h1
 have H2:=hid h2
 have HM:=hid hm
 have HI:=hid h
 have bl0:=(Below.refl w.heap.size w).alloc (Nat.le_refl _) (.cells #[.slice a1 m.kinds.length c1,.slice ao m.funcs.length cap] 38)
 have mb0:F2 (w.alloc (.cells #[.slice a1 m.kinds.length c1,.slice ao m.funcs.length cap] 38)) w.heap.size 38 (.slice a1 m.kinds.length c1) (.slice ao m.funcs.length cap):=heap_alloc_new w _
 clear h1 h2 hm h
 go_enter Tryz.func38,Tryz.ntmps38
 go_wp2
 go_loopw [4] (fun i wr=>∃k:Nat,k<=m.funcs.length/\i=.int .i64 k/\(∀j,j<k->Fl.Sound m (m.funcs.getD j ⟨[],[],[],[]⟩))/\F2 wr w.heap.size 38 (.slice a1 m.kinds.length c1) (.slice ao m.funcs.length cap)/\Below w.heap.size w wr) (fun i _=>m.funcs.length-(intOf i).toNat)
 case atStart=>exact⟨0,Nat.zero_le _,rfl,fun j hj=>by omega,mb0,bl0⟩
 case round=>
  obtain⟨k,hk,rfl,hg,mb,bl⟩:=hrel
  clear mb0 bl0
  have HG:=hid hg
  clear hg
  have d0:=mb.c0
  have d1:=mb.c1
  have l0:=mb.lt
  by_cases hlt:k<m.funcs.length
  ·obtain⟨rfl,hbB⟩:=H1.out (by omega)
   obtain⟨y,g0,g1,g2,g3,hy⟩:=H2.out k hlt
   obtain⟨x1,y1,x2,y2,x3,y3,x4,y4,rfl⟩:=hy.shape
   have k0:=(bl.cell (p:=⟨b,off+k*4,none⟩) hbB).trans g0
   have k1:=(bl.cell (p:=⟨b,off+k*4+1,none⟩) hbB).trans g1
   have k2:=(bl.cell (p:=⟨b,off+k*4+2,none⟩) hbB).trans g2
   have k3:=(bl.cell (p:=⟨b,off+k*4+3,none⟩) hbB).trans g3
   have lb:b<wr.heap.size:=Nat.lt_of_lt_of_le hbB bl.size
   have hmem:m.funcs.getD k ⟨[],[],[],[]⟩∈m.funcs:=by rw[List.getD_eq_getElem?_getD,List.getElem?_eq_getElem hlt];exact List.getElem_mem hlt
   have fo:=isMd_fn HI.out hmem
   have HGK:Hid (Fl.Sound m (m.funcs.getD k ⟨[],[],[],[]⟩)->∀j,j<k+1->Fl.Sound m (m.funcs.getD j ⟨[],[],[],[]⟩)):=fun hs j hj=>by
    by_cases hjk:j<k
    ·exact HG.out j hjk
    ·rw[show j=k from by omega];exact hs
   have HFB:Hid (¬Fl.Sound m (m.funcs.getD k ⟨[],[],[],[]⟩)->FirstBad m k):=fun hs=>⟨hlt,hs,HG.out⟩
   generalize m.funcs.getD k ⟨[],[],[],[]⟩=f at *
   simp only at k0 k1 k2 k3
   clear g0 g1 g2 g3 hmem HG
   have hmr:MdR wr.drew wr.drew.heap.size _ _ m:=((HM.out.below bl).wide bl.size).below ((Below.refl _ _).drew)
   have hfr:FnR wr.drew wr.drew.heap.size _ f:=((hy.below bl).wide bl.size).below ((Below.refl _ _).drew)
   go_wp2_with fail
   go_region_held3 (fun w'=>w'.cell? ⟨w.heap.size,0,none⟩=some (.slice a1 m.kinds.length c1)/\w'.cell? ⟨w.heap.size,1,none⟩=some (.slice (some ⟨b,off,none⟩) m.funcs.length cap)/\w'.cell? ⟨b,off+k*4,none⟩=some (.slice x1 f.params.length y1)/\w'.cell? ⟨b,off+k*4+1,none⟩=some (.slice x2 f.results.length y2)/\w'.cell? ⟨b,off+k*4+2,none⟩=some (.slice x3 f.locals.length y3)/\w'.cell? ⟨b,off+k*4+3,none⟩=some (.slice x4 f.code.length y4))
    (first|exact⟨d0,d1,k0,k1,k2,k3⟩|exact⟨(hb3.cell (p:=⟨w.heap.size,0,none⟩) l0).trans d0,(hb3.cell (p:=⟨w.heap.size,1,none⟩) l0).trans d1,(hb3.cell (p:=⟨b,off+k*4,none⟩) lb).trans k0,(hb3.cell (p:=⟨b,off+k*4+1,none⟩) lb).trans k1,(hb3.cell (p:=⟨b,off+k*4+2,none⟩) lb).trans k2,(hb3.cell (p:=⟨b,off+k*4+3,none⟩) lb).trans k3⟩)
    ((go_at_call 58;refine(fsound_any m f _ _ _ _ hmr hfr (isMd_kinds HI.out) fo).mono ?_;rintro e w3 ⟨r,rfl,hr,hb3⟩))
   have hbw:Below wr.heap.size wr w3:=((Below.refl _ _).drew).trans hb3
   have bl3:Below w.heap.size w w3:=bl.trans (hbw.mono bl.size)
   have mb3:F2 w3 w.heap.size 38 _ _:=(hbw.block _ mb.lt).trans mb
   clear hb3 hbw hmr hfr fo hy k0 k1 k2 k3 d0 d1 mb bl
   cases r with
   | true=>
    have HG2:=hid (HGK.out (hr.1 rfl))
    clear hr HGK HFB
    go_wp2
    go_roundw
    case rel=>exact⟨k+1,hlt,by go_num,HG2.out,mb3,bl3⟩
    case measure=>simp[intOf];omega
   | false=>
    have hns:¬Fl.Sound m f:=fun hs=>by have:=hr.2 hs;simp at this
    have FIN:Hid (FlowOut w w3 m (.returned (.tuple #[.int .i64 3,.int .i64 k]))):=⟨3,k,rfl,.inl ⟨rfl,k,rfl,HFB.out hns⟩,bl3⟩
    clear hr HGK HFB hns mb3
    go_wp2
    go_ret2
    exact FIN.out
  ·have FIN:Hid (FlowOut w wr m (.returned (.tuple #[.int .i64 0,.int .i64 0]))):=⟨0,0,rfl,.inr ⟨rfl,rfl,fun j hj=>HG.out j (by omega)⟩,bl⟩
   go_wp2
   go_ret2
   exact FIN.out
def ChkSays(b:ByteArray)(e p:Int):Prop:=(¬(Pu.decode b).2.1=0/\e=(Pu.decode b).2.1/\p=(Pu.decode b).2.2)\/((Pu.decode b).2.1=0/\FlowSays (Pu.decode b).1 e p)
theorem ChkSays.one{b:ByteArray}{e p e' p':Int}(h:ChkSays b e p)(h':ChkSays b e' p'):e=e'/\p=p':=by
 rcases h with ⟨h1,h2,h3⟩|⟨h1,h2⟩
 ·rcases h' with ⟨_,k2,k3⟩|⟨k1,_⟩
  ·exact⟨by rw[h2,k2],by rw[h3,k3]⟩
  ·exact absurd k1 h1
 ·rcases h' with ⟨k1,_⟩|⟨_,k2⟩
  ·exact absurd h1 k1
  ·exact h2.one k2
def ChkOut(w w':World)(b:ByteArray)(r:Ending):Prop:=∃e p,r=.returned (.tuple #[.int .i64 e,.int .i64 p])/\ChkSays b e p/\Below w.heap.size w w'
theorem fcheck_any(b:ByteArray)(w:World)(hs:b.size<=maxLen):
  Calls Tryz.prog 31 #[.string b] w fun e w'=>ChkOut w w' b e:=by
 go_enter Tryz.func31,Tryz.ntmps31
 go_wp2_with fail
 refine(readModule_any b _ hs).mono ?_
 rintro e w1 ⟨ho,hb1⟩
 obtain⟨k,v,xs,rfl,hm,_,_⟩:=ho.one
 obtain⟨a1,c1,rfl⟩:=owns_shape hm.hk
 obtain⟨a2,c2,rfl⟩:=owns_shape hm.hv
 clear ho
 have HIS:Hid ((Pu.decode b).2.1=0->Pu.isMd (Pu.decode b).1=true):=fun h=>dec_is h
 have HC:Hid (∀e p,((¬(Pu.decode b).2.1=0/\e=(Pu.decode b).2.1/\p=(Pu.decode b).2.2)\/((Pu.decode b).2.1=0/\FlowSays (Pu.decode b).1 e p))->ChkSays b e p):=fun e p h=>h
 have hr:=mdAt_reads hm
 generalize (Pu.decode b).1=m at *
 generalize (Pu.decode b).2.1=ev at *
 generalize (Pu.decode b).2.2=av at *
 have hbA:=(Below.refl w1.heap.size w1).alloc (Nat.le_refl _) (.cells #[.slice a1 m.kinds.length c1,.slice a2 m.funcs.length c2] 38)
 have bxA:F2 (w1.alloc (.cells #[.slice a1 m.kinds.length c1,.slice a2 m.funcs.length c2] 38)) w1.heap.size 38 (.slice a1 m.kinds.length c1) (.slice a2 m.funcs.length c2):=heap_alloc_new w1 _
 have hrA:=(hr.below hbA).wide hbA.size
 have hb2:=hb1.trans (hbA.mono hb1.size)
 clear hm hr
 by_cases hev:ev=0
 ·subst hev
  have his:=HIS.out rfl
  have HC0:Hid (∀e p,FlowSays m e p->ChkSays b e p):=fun e p h=>HC.out e p (.inr ⟨rfl,h⟩)
  clear HIS HC
  go_wp2_with fail
  refine(fcheckm_any m _ _ _ hrA his).mono ?_
  rintro e w3 ⟨e3,p3,rfl,hf3,hb3⟩
  have FIN:Hid (ChkOut w w3 b (.returned (.tuple #[.int .i64 e3,.int .i64 p3]))):=⟨e3,p3,rfl,HC0.out _ _ hf3,hb2.trans (hb3.mono hb2.size)⟩
  clear hf3 hb3 hb2 hrA bxA hbA hb1 HC0
  go_wp2
  go_ret2
  exact FIN.out
 ·have FIN:Hid (ChkOut w (w1.alloc (.cells #[.slice a1 m.kinds.length c1,.slice a2 m.funcs.length c2] 38)) b (.returned (.tuple #[.int .i64 ev,.int .i64 av]))):=⟨ev,av,rfl,HC.out _ _ (.inl ⟨hev,rfl,rfl⟩),hb2⟩
  clear hb2 hrA bxA hbA hb1 HC HIS
  go_wp2
  go_ret2
  exact FIN.out
def noHeld:List Value:=(List.replicate 48 [Value.bool false,.int .i64 0]).flatten
structure LedR (w:World) (q:Nat) (mk mv:Value) (held:List Value):Prop where
 b:w.heap[q]?=some (.cells (mk::mv::held).toArray 108 (0,0))
theorem zeroLedger:Tryz.zeroCells108.toList=.slice none 0 0::.slice none 0 0::noHeld:=by kernel_rfl
theorem newCells(a b:Value):((Tryz.zeroCells108.setIfInBounds 0 a).setIfInBounds 1 b)=(a::b::noHeld).toArray:=by
 apply Array.toList_inj.1
 rw[Array.toList_setIfInBounds,Array.toList_setIfInBounds,zeroLedger]
 rfl
def FM(w:World)(B q:Nat)(mk mv:Value)(m:Pu.Md):Prop:=∀w':World,q<=w'.heap.size->(∀k,B<=k->k<q->w'.heap[k]?=w.heap[k]?)->MdR w' q mk mv m
end Go.Proofs.YtjamgmbdilkbcaaGreat
namespace Go.Proofs.YtjamgmbdilkbcaaGreat
namespace Pu
def isB(x:Int):Bool:=decide (0<=x)&&decide (x<=255)
def smallL(l:List Int):Bool:=l.all isB&&decide (l.length<256)
def flat(l:List (Int × Int)):List Int:=l.flatMap fun x=>[x.1,x.2]
def smallF(f:Fn):Bool:=smallL f.params&&smallL f.results&&smallL f.locals&&decide (f.code.length<=255)&&(flat f.code).all isB
def smallM(m:Md):Bool:=smallL m.kinds&&decide (m.funcs.length<=255)&&m.funcs.all smallF
def wholeBad(b:ByteArray):Bool:=(atEnd b (module b).2).2
def renc(m:Md):List UInt8 × Int:=
 if smallM m=true then(if wholeBad ⟨(wMd m).toArray⟩=true then([],2) else if 1500<(wMd m).length then([],1) else(wMd m,0)) else([],2)
theorem byte_inj{x y:Int}(hx:isB x=true)(hy:isB y=true)(h:byte x=byte y):x=y:=by
 simp only[isB,Bool.and_eq_true,decide_eq_true_eq]at hx hy
 have h1:=u8_byte x hx.1 hx.2
 have h2:=u8_byte y hy.1 hy.2
 rw[h]at h1
 omega
theorem bytes_inj:∀{l l':List Int} {t t':List UInt8},l.length=l'.length->l.all isB=true->l'.all isB=true->l.map byte++t=l'.map byte++t'->l=l'/\t=t'
 | [],[],_,_,_,_,_,h=>⟨rfl,by simpa using h⟩
 | x::l,y::l',t,t',hl,h1,h2,h=>by
  simp only[List.all_cons,Bool.and_eq_true]at h1 h2
  simp only[List.map_cons,List.cons_append,List.cons.injEq]at h
  obtain⟨e,e'⟩:=bytes_inj (by simpa using hl) h1.2 h2.2 h.2
  exact⟨by rw[byte_inj h1.1 h2.1 h.1,e],e'⟩
 | [],_::_,_,_,hl,_,_,_=>by simp at hl
 | _::_,[],_,_,hl,_,_,_=>by simp at hl
theorem len_isB{n:Nat}(h:n<256):isB (n:Int)=true:=by
 simp only[isB,Bool.and_eq_true,decide_eq_true_eq]
 omega
theorem wList_inj{l l':List Int}{t t':List UInt8}(h1:smallL l=true)(h2:smallL l'=true)(h:wList l++t=wList l'++t'):l=l'/\t=t':=by
 simp only[smallL,Bool.and_eq_true,decide_eq_true_eq]at h1 h2
 simp only[wList,List.cons_append,List.cons.injEq]at h
 have:=byte_inj (len_isB h1.2) (len_isB h2.2) h.1
 exact bytes_inj (by omega) h1.1 h2.1 h.2
theorem wCode_flat(l:List (Int × Int)):wCode l=(flat l).map byte:=by
 induction l with
 | nil=>rfl
 | cons x l ih=>simp only[wCode,flat,List.flatMap_cons,List.map_append,List.map_cons,List.map_nil]at ih ⊢;rw[ih]
theorem flat_len(l:List (Int × Int)):(flat l).length=2*l.length:=by
 induction l with
 | nil=>rfl
 | cons x l ih=>simp only[flat,List.flatMap_cons,List.length_append,List.length_cons,List.length_nil]at ih ⊢;omega
theorem flat_inj:∀{l l':List (Int × Int)},flat l=flat l'->l=l'
 | [],[],_=>rfl
 | (a,b)::l,(c,d)::l',h=>by
  simp only[flat,List.flatMap_cons,List.cons_append,List.nil_append,List.cons.injEq]at h
  obtain⟨rfl,rfl,h⟩:=h
  rw[flat_inj h]
 | [],(_,_)::_,h=>by simp[flat]at h
 | (_,_)::_,[],h=>by simp[flat]at h
theorem wFn_inj{f f':Fn}{t t':List UInt8}(h1:smallF f=true)(h2:smallF f'=true)(h:wFn f++t=wFn f'++t'):f=f'/\t=t':=by
 simp only[smallF,Bool.and_eq_true,decide_eq_true_eq]at h1 h2
 obtain⟨⟨⟨⟨p1,r1⟩,l1⟩,n1⟩,c1⟩:=h1
 obtain⟨⟨⟨⟨p2,r2⟩,l2⟩,n2⟩,c2⟩:=h2
 simp only[wFn,List.append_assoc,List.cons_append]at h
 obtain⟨e1,h⟩:=wList_inj p1 p2 h
 obtain⟨e2,h⟩:=wList_inj r1 r2 h
 obtain⟨e3,h⟩:=wList_inj l1 l2 h
 simp only[List.cons.injEq]at h
 have e4:=byte_inj (len_isB (by omega)) (len_isB (by omega)) h.1
 have h5:=h.2
 rw[wCode_flat,wCode_flat]at h5
 obtain⟨e5,h6⟩:=bytes_inj (by rw[flat_len,flat_len];omega) c1 c2 h5
 have e6:=flat_inj e5
 obtain⟨a,b,c,d⟩:=f
 obtain⟨a',b',c',d'⟩:=f'
 simp only at e1 e2 e3 e6
 subst e1 e2 e3 e6
 exact⟨rfl,h6⟩
theorem wFns_inj:∀{l l':List Fn} {t t':List UInt8},l.length=l'.length->l.all smallF=true->l'.all smallF=true->wFns l++t=wFns l'++t'->l=l'/\t=t'
 | [],[],_,_,_,_,_,h=>⟨rfl,by simpa[wFns]using h⟩
 | x::l,y::l',t,t',hl,h1,h2,h=>by
  simp only[List.all_cons,Bool.and_eq_true]at h1 h2
  simp only[wFns,List.flatMap_cons,List.append_assoc]at h
  obtain⟨e1,h⟩:=wFn_inj h1.1 h2.1 h
  obtain⟨e,e'⟩:=wFns_inj (by simpa using hl) h1.2 h2.2 h
  exact⟨by rw[e1,e],e'⟩
 | [],_::_,_,_,hl,_,_,_=>by simp at hl
 | _::_,[],_,_,hl,_,_,_=>by simp at hl
theorem wMd_inj{m m':Md}(h1:smallM m=true)(h2:smallM m'=true)(h:wMd m=wMd m'):m=m':=by
 simp only[smallM,Bool.and_eq_true,decide_eq_true_eq]at h1 h2
 simp only[wMd,List.cons.injEq,true_and]at h
 obtain⟨e1,h⟩:=wList_inj h1.1.1 h2.1.1 h
 simp only[List.cons.injEq]at h
 have e2:=byte_inj (len_isB (by omega)) (len_isB (by omega)) h.1
 obtain⟨e3,_⟩:=wFns_inj (t:=[]) (t':=[]) (by omega) h1.2 h2.2 (by rw[h.2])
 obtain⟨a,b⟩:=m
 obtain⟨a',b'⟩:=m'
 simp only at e1 e3
 subst e1 e3
 rfl
theorem isList_small{l:List Int}{most hi:Int}(hm:most<=255)(hh:hi<=255)(h:isList l most hi=true):smallL l=true:=by
 simp only[isList,smallL,isB,Bool.and_eq_true,decide_eq_true_eq,List.all_eq_true]at h ⊢
 exact⟨fun x hx=>by have:=h.2 x hx;omega,by omega⟩
theorem isFn_small{f:Fn}{ki fu:Int}(hk:ki<=255)(hf:fu<=255)(h:isFn f ki fu=true):smallF f=true:=by
 simp only[isFn,Bool.and_eq_true,decide_eq_true_eq]at h
 obtain⟨h1,h2,h3,h4,h5,h6⟩:=h
 have p1:(f.params.length:Int)<=4:=by simp only[isList,Bool.and_eq_true,decide_eq_true_eq]at h1;exact h1.1
 have p3:(f.locals.length:Int)<=4:=by simp only[isList,Bool.and_eq_true,decide_eq_true_eq]at h3;exact h3.1
 simp only[smallF,Bool.and_eq_true,decide_eq_true_eq]
 refine⟨⟨⟨⟨isList_small (by omega) hk h1,isList_small (by omega) hk h2⟩,isList_small (by omega) hk h3⟩,by omega⟩,?_⟩
 rw[List.all_eq_true]
 intro x hx
 obtain⟨y,hy,hxy⟩:=List.mem_flatMap.1 hx
 simp only[isCode,List.all_eq_true]at h6
 have h7:=h6 y hy
 simp only[isInstr,Bool.and_eq_true,decide_eq_true_eq]at h7
 have a1:=argLo_ge y.1
 have a2:=argHi_le ki fu ((f.params.length:Int)+(f.locals.length:Int)) f.code.length y.1 hk hf (by omega) (by omega)
 simp only[isB,Bool.and_eq_true,decide_eq_true_eq]
 simp only[List.mem_cons,List.not_mem_nil,or_false]at hxy
 rcases hxy with rfl|rfl<;>omega
theorem isMd_small{m:Md}(h:isMd m=true):smallM m=true:=by
 simp only[isMd,Bool.and_eq_true,decide_eq_true_eq,List.all_eq_true]at h
 obtain⟨h1,h2,h3,h4⟩:=h
 have p1:(m.kinds.length:Int)<=6:=by simp only[isList,Bool.and_eq_true,decide_eq_true_eq]at h1;exact h1.1
 simp only[smallM,Bool.and_eq_true,decide_eq_true_eq,List.all_eq_true]
 exact⟨⟨isList_small (by omega) (by omega) h1,by omega⟩,fun f hf=>isFn_small (by omega) (by omega) (h4 f hf)⟩
theorem whole_is{m:Md}(hs:smallM m=true):wholeBad ⟨(wMd m).toArray⟩=!isMd m:=by
 have e:(ByteArray.mk (wMd m).toArray).data.toList=wMd m++[]:=by simp
 have hsz:(ByteArray.mk (wMd m).toArray).size=(wMd m).length:=by simp[ByteArray.size]
 cases hm:isMd m with
 | true=>
  obtain⟨g1,g2,g3⟩:=module_go e hm
  have hle:¬(module ⟨(wMd m).toArray⟩).2.1<(ByteArray.mk (wMd m).toArray).size:=by
   simp only[rest,List.drop_eq_nil_iff]at g3
   rw[hsz]
   simpa using g3
  simp only[wholeBad,atEnd,hle,if_false,g2]
  rfl
 | false=>
  cases hw:wholeBad ⟨(wMd m).toArray⟩with
  | true=>rfl
  | false=>
   exfalso
   unfold wholeBad at hw
   have h3:¬(module ⟨(wMd m).toArray⟩).2.1<(ByteArray.mk (wMd m).toArray).size:=by
    intro hc;simp[atEnd,hc]at hw
   have h4:(module ⟨(wMd m).toArray⟩).2.2=false:=by
    simp only[atEnd,h3,if_false]at hw;simpa using hw
   obtain⟨k1,k2⟩:=module_ok h4
   have hn:rest ⟨(wMd m).toArray⟩ (module ⟨(wMd m).toArray⟩).2=[]:=by
    simp only[rest,List.drop_eq_nil_iff]
    rw[hsz]at h3
    simpa using h3
   rw[hn,List.append_nil]at k1
   have:=wMd_inj hs (isMd_small k2) k1
   rw[<-this,hm]at k2
   simp at k2
theorem renc_eq(m:Md):renc m=encode m:=by
 unfold renc encode
 cases hs:smallM m with
 | true=>
  rw[if_pos rfl,whole_is hs]
  cases isMd m<;>simp
 | false=>
  cases hm:isMd m with
  | true=>rw[isMd_small hm]at hs;simp at hs
  | false=>simp
end Pu
end Go.Proofs.YtjamgmbdilkbcaaGreat
namespace Go.Proofs.YtjamgmbdilkbcaaGreat
open Go.RowKit
theorem small_any(l:List Int)(v:Value)(B:Nat)(w:World)(h:IntsR w B v l)(hl:l.length<=maxLen):
  Calls Tryz.prog 51 #[v] w fun e w'=>e=.returned (.bool (Pu.smallL l))/\w'=w:=by
 obtain⟨ao,cap,b,off,rfl,h1,h2⟩:=h
 unfold maxLen at hl
 go_enter Tryz.func51,Tryz.ntmps51
 go_wp2
 go_loop [3] (fun i=>∃k:Nat,k<=l.length/\i=.int .i64 k/\(l.take k).all Pu.isB=true) (fun i=>l.length-(intOf i).toNat)
 case atStart=>exact⟨0,Nat.zero_le _,rfl,by simp⟩
 case round=>
  obtain⟨k,hk,rfl,ha⟩:=hrel
  by_cases hlt:k<l.length
  ·obtain⟨rfl,hbB⟩:=h1 (by omega)
   have hc:=h2 k hlt
   clear h1 h2
   have HT:Hid _:=take_all_snoc l Pu.isB k 0 hlt
   have HF:Hid _:=all_false_of l Pu.isB k 0 hlt
   have HA:Hid _:=ha
   clear ha
   generalize l.getD k 0=x at *
   by_cases hx0:x<0
   ·go_wp2
    go_ret
    exact⟨ret_bool (by rw[Pu.smallL,HF.out (by simp[Pu.isB];omega)];rfl),rfl⟩
   ·by_cases hx1:255<x
    ·go_wp2
     go_ret
     exact⟨ret_bool (by rw[Pu.smallL,HF.out (by simp[Pu.isB];omega)];rfl),rfl⟩
    ·go_wp2
     go_round
     case rel=>exact⟨k+1,hlt,by go_num,by rw[HT.out,HA.out];simp[Pu.isB];omega⟩
     case measure=>simp[intOf];omega
  ·have HA:Hid _:=ha
   clear ha
   have hle:(l.take k).all Pu.isB=l.all Pu.isB:=by rw[List.take_of_length_le (by omega)]
   have HLE:Hid _:=hle
   clear hle
   by_cases hl2:l.length<256
   ·go_wp2
    go_ret
    exact⟨ret_bool (by rw[Pu.smallL,<-HLE.out,HA.out];simp;omega),rfl⟩
   ·go_wp2
    go_ret
    exact⟨ret_bool (by rw[Pu.smallL,show decide (l.length<256)=false from by simp;omega,Bool.and_false];symm;simp;omega),rfl⟩
theorem bv_snoc(l:List UInt8)(c:UInt8):bv (l++[c])=bv l++[.int .u8 (c.toNat:Int)]:=by simp[bv]
theorem byte_val(n:Int):((Pu.byte n).toNat:Int)=n % 256:=by
 unfold Pu.byte
 rw[UInt8.toNat_ofNat']
 omega
theorem owns_new(w:World)(v:Value)(e:TypeId):(w.alloc (.cells #[v] e)).ownsRow w.heap.size e 1 (.slice (some ⟨w.heap.size,0,none⟩) 1 1) 1 [v]:=
 ⟨rfl,.inr ⟨w.heap.size,1,#[v],rfl,Nat.le_refl _,heap_alloc_new w _,Nat.le_refl _,by decide,rfl,rfl⟩⟩
theorem put_any(l:List Int)(v:Value)(w:World)(h:IntsR w w.heap.size v l)(hl:l.length<=1000000):
  Calls Tryz.prog 52 #[v] w fun e w'=>e=.returned (.string ⟨(Pu.wList l).toArray⟩)/\Below w.heap.size w w':=by
 obtain⟨i0,hi0,hz0,hz1,hz2⟩:=info_parts Tryz.info5
 obtain⟨ao,cap,b,off,rfl,h1,h2⟩:=h
 have H1:Hid _:=h1
 have H2:Hid _:=h2
 clear h1 h2
 go_enter Tryz.func52,Tryz.ntmps52
 have o0:=owns_new w (.int .u8 ((l.length:Int) % 256)) 5
 have b0:=(Below.refl w.heap.size w).alloc (Nat.le_refl _) (.cells #[.int .u8 ((l.length:Int) % 256)] 5)
 go_wp2
 go_loopw [3,4] (fun g i wr=>∃k:Nat,k<=l.length/\i=.int .i64 k/\wr.ownsRow w.heap.size 5 1 g (k+1) (bv (Pu.byte l.length::(l.map Pu.byte).take k))/\Below w.heap.size w wr) (fun _ i _=>l.length-(intOf i).toNat)
 case atStart=>exact⟨0,Nat.zero_le _,rfl,by simpa[bv,byte_val]using o0,b0⟩
 case round=>
  obtain⟨k,hk,rfl,ho,hb⟩:=hrel
  clear o0 b0
  obtain⟨ag,cg,rfl⟩:=owns_shape ho
  by_cases hlt:k<l.length
  ·obtain⟨rfl,hbB⟩:=H1.out (by omega)
   have hc:=(hb.cell (p:=⟨b,off+k,none⟩) hbB).trans (H2.out k hlt)
   have HT:Hid (bv (Pu.byte l.length::(l.map Pu.byte).take (k+1))=bv (Pu.byte l.length::(l.map Pu.byte).take k)++[.int .u8 (l.getD k 0 % 256)]):=by
    show _=_
    rw[List.take_succ_eq_append_getElem (by simpa using hlt),List.getD_eq_getElem?_getD,List.getElem?_eq_getElem hlt,<-List.cons_append,bv_snoc,List.getElem_map,byte_val]
    rfl
   generalize l.getD k 0=x at *
   have hz:=hb.size
   have oa:=ho.alloc (.cells #[.int .u8 (x % 256)] 5)
   go_wp2_with (at_builtin;refine wpList_append_own _ rfl _ _ 126 rfl w.heap.size 5 i0 (.int .u8 0) 1 1 Tryz.underlying126 hi0 hz0 hz1 hz2 rfl (by decide) _ _ _ rfl oa ⟨wr.heap.size,0,none⟩ 1 1 [.int .u8 (x % 256)] rfl rfl (cell_one_new _ _ _) ?c2 ?c3 ?c4 ?c5 ?_)
   case c2=>first|rfl|(intro u hu;simp at hu;subst hu;rfl)
   case c3=>unfold maxLen;omega
   case c4=>omega
   case c5=>first|omega|(simp only[World.size_alloc];omega)
   intro v' w1 hown' hgrow _
   have hb1:Below w.heap.size w w1:=(hb.alloc hz _).grown hgrow (by simp only[World.size_alloc];omega) (fun k hk=>(ho.lt k hk).1)
   rw[<-HT.out]at hown'
   clear hgrow ho hb hc oa HT
   obtain⟨ag2,cg2,rfl⟩:=owns_shape hown'
   go_wp2
   go_roundw
   case rel=>exact⟨k+1,hlt,by go_num,hown',hb1⟩
   case measure=>simp[intOf];omega
  ·have hk2:k=l.length:=by omega
   subst hk2
   have hcv:=wr_string (l:=Pu.wList l) (by simpa[Pu.wList,List.take_of_length_le]using ho)
   obtain⟨s,hs⟩:∃s:ByteArray,s=⟨(Pu.wList l).toArray⟩:=⟨_,rfl⟩
   rw[<-hs]at hcv
   have HS:Hid _:=hs
   clear ho hs
   go_wp2
   go_ret
   rw[<-HS.out]
   exact⟨rfl,hb⟩
def lt(k:Int):UInt8:=Pu.byte (48+k)
def str(l:List Int):ByteArray:=⟨(l.map lt).toArray⟩
theorem str_size(l:List Int):(str l).size=l.length:=by simp[str,ByteArray.size]
theorem str_append(a b:List Int):str a++str b=str (a++b):=by
 apply ByteArray.ext
 simp[str,ByteArray.data_append]
theorem rletter_any(k:Int)(w:World)(h:-1000<=k/\k<=1000):
  Calls Tryz.prog 95 #[.int .i64 k] w fun e w'=>e=.returned (.string (str [k]))/\Below w.heap.size w w':=by
 have o0:=owns_new w (.int .u8 ((48+k) % 256)) 5
 have b0:=(Below.refl w.heap.size w).alloc (Nat.le_refl _) (.cells #[.int .u8 ((48+k) % 256)] 5)
 have hcv:=wr_string (l:=[lt k]) (by simpa[bv,lt,byte_val]using o0)
 obtain⟨s,hs⟩:∃s:ByteArray,s=⟨([lt k]:List UInt8).toArray⟩:=⟨_,rfl⟩
 rw[<-hs]at hcv
 have HS:=hid hs
 clear hs o0
 go_enter Tryz.func95,Tryz.ntmps95
 go_wp2
 go_ret
 refine⟨?_,b0⟩
 rw[show str [k]=s from HS.out.symm]
 rfl
theorem rletters_any(l:List Int)(v:Value)(w:World)(h:IntsR w w.heap.size v l)(hl:l.length<=1000)(hk:∀k∈l,-1000<=k/\k<=1000):
  Calls Tryz.prog 73 #[v] w fun e w'=>e=.returned (.string (str l))/\Below w.heap.size w w':=by
 obtain⟨ao,cap,b,off,rfl,h1,h2⟩:=h
 have H1:=hid h1
 have H2:=hid h2
 have HK:=hid hk
 clear h1 h2 hk
 go_enter Tryz.func73,Tryz.ntmps73
 go_wp2
 go_loopw [3,4] (fun s i wr=>∃k:Nat,k<=l.length/\i=.int .i64 k/\s=.string (str (l.take k))/\Below w.heap.size w wr) (fun _ i _=>l.length-(intOf i).toNat)
 case atStart=>exact⟨0,Nat.zero_le _,rfl,rfl,Below.refl _ _⟩
 case round=>
  obtain⟨k,hk,rfl,rfl,hb⟩:=hrel
  by_cases hlt:k<l.length
  ·obtain⟨rfl,hbB⟩:=H1.out (by omega)
   have hc:=(hb.cell (p:=⟨b,off+k,none⟩) hbB).trans (H2.out k hlt)
   have HT:Hid (str (l.take k)++str [l.getD k 0]=str (l.take (k+1))):=by
    show _=_
    rw[str_append,List.take_succ_eq_append_getElem hlt,List.getD_eq_getElem?_getD,List.getElem?_eq_getElem hlt]
    rfl
   have hkk:=HK.out (l.getD k 0) (by rw[List.getD_eq_getElem?_getD,List.getElem?_eq_getElem hlt];exact List.getElem_mem hlt)
   have hsz:=str_size (l.take k)
   rw[List.length_take]at hsz
   generalize l.getD k 0=x at *
   generalize str (l.take k)=S at *
   have hx1:(str [x]).size=1:=str_size [x]
   have t1:(9223372036854775807<S.size+1)=False:=by simp;omega
   go_wp2_with fail
   refine(rletter_any x wr hkk).mono ?_
   rintro e w3 ⟨rfl,hb3⟩
   have hb4:=hb.trans (hb3.mono hb.size)
   clear hb hb3 hc
   generalize str [x]=X at *
   go_wp2
   go_roundw
   case rel=>exact⟨k+1,hlt,by go_num,by rw[<-HT.out],hb4⟩
   case measure=>simp[intOf];omega
  ·have hkl:k=l.length:=by omega
   subst hkl
   rw[List.take_of_length_le (Nat.le_refl _)]
   go_wp2
   go_ret
   exact⟨rfl,hb⟩
theorem rmay_any(m:Pu.Md)(mk mv:Value)(k what:Int)(w:World)(hm:MdR w w.heap.size mk mv m)(hk:0<=k/\k<=m.kinds.length):
  Calls Tryz.prog 99 #[.agg #[mk,mv],.int .i64 k,.int .i64 what] w fun e w'=>e=.returned (.bool (Fl.may m k what))/\Below w.heap.size w w':=by
 obtain⟨a2,c2,rfl⟩:=hm.v.shape
 obtain⟨ao,cap,b,off,hkv,h1,h2⟩:=hm.k
 subst hkv
 have hnk:=hm.nk
 unfold maxLen at hnk
 have bl0:=(Below.refl w.heap.size w).alloc (Nat.le_refl _) (.cells #[.slice ao m.kinds.length cap,.slice a2 m.funcs.length c2] 38)
 by_cases h0:k=0
 ·subst h0
  have hm0:Fl.may m 0 what=true:=by simp[Fl.may]
  rw[hm0]
  go_enter Tryz.func99,Tryz.ntmps99
  go_wp2
  go_ret
  exact⟨rfl,bl0⟩
 ·obtain⟨n,rfl⟩:∃n:Nat,k=n+1:=⟨(k-1).toNat,by omega⟩
  obtain⟨rfl,hbl⟩:=h1 (by omega)
  have c1:=h2 n (by omega)
  have HM:Hid (Fl.may m ((n:Int)+1) what=decide (m.kinds.getD n 0=3\/m.kinds.getD n 0=what)):=by
   show _=_
   simp only[Fl.may]
   rw[if_pos (by omega),show((n:Int)+1-1).toNat=n from by omega]
  generalize m.kinds.getD n 0=z at *
  rw[HM.out]
  clear HM h1 h2
  go_enter Tryz.func99,Tryz.ntmps99
  by_cases hz:z=3
  ·subst hz
   go_wp2
   go_ret
   exact⟨by simp,bl0⟩
  ·by_cases hzw:z=what
   ·subst hzw
    go_wp2
    go_ret
    exact⟨by simp,bl0⟩
   ·go_wp2
    go_ret
    exact⟨by simp[hz,hzw],bl0⟩
theorem lt_inj{a b:Int}(ha:0<=a/\a<=100)(hb:0<=b/\b<=100)(h:lt a=lt b):a=b:=by
 have h2:=congrArg (fun x=>(x.toNat:Int)) h
 simp only[lt,byte_val]at h2
 omega
def Low(l:List Int):Prop:=∀k∈l,0<=k/\k<=100
theorem map_lt_inj:∀{a b:List Int},Low a->Low b->a.map lt=b.map lt->a=b
 | [],[],_,_,_=>rfl
 | [],_::_,_,_,h=>by simp at h
 | _::_,[],_,_,h=>by simp at h
 | x::a,y::b,ha,hb,h=>by
  simp only[List.map_cons,List.cons.injEq]at h
  rw[lt_inj (ha x (by simp)) (hb y (by simp)) h.1,map_lt_inj (fun k hk=>ha k (by simp[hk])) (fun k hk=>hb k (by simp[hk])) h.2]
theorem str_extract(s:List Int)(i j:Nat):(str s).extract i j=str ((s.take j).drop i):=by
 apply ByteArray.ext
 simp[str,ByteArray.data_extract,List.map_drop,List.map_take]
 rw[List.drop_take]
theorem str_list(s:List Int):(str s).toList=s.map lt:=by
 simp[str,ByteArray.toList_eq]
theorem str_eq{a b:List Int}(ha:Low a)(hb:Low b):((str a).toList == (str b).toList)=decide (a=b):=by
 rw[str_list,str_list]
 by_cases h:a=b
 ·subst h;simp
 ·simp only[h,decide_false]
  rw[beq_eq_false_iff_ne]
  exact fun e=>h (map_lt_inj ha hb e)
theorem rends_any(s l:List Int)(w:World)(hs:s.length<=1000)(hl:l.length<=1000)(ls:Low s)(ll:Low l):
  Calls Tryz.prog 101 #[.string (str s),.string (str l)] w fun e w'=>e=.returned (.bool (decide (l.length<=s.length/\s.drop (s.length-l.length)=l)))/\w'=w:=by
 have h1:=str_size s
 have h2:=str_size l
 go_enter Tryz.func101,Tryz.ntmps101
 by_cases hle:l.length<=s.length
 ·go_wp2
  go_ret
  refine⟨?_,rfl⟩
  have hd:Low (s.drop (s.length-l.length)):=fun k hk=>ls k (List.mem_of_mem_drop hk)
  have e1:((str s).extract (s.length-l.length) s.length).toList=(str (s.drop (s.length-l.length))).toList:=by rw[str_extract,List.take_of_length_le (Nat.le_refl _)]
  simp[e1,str_eq hd ll,hle]
 ·go_wp2
  go_ret
  refine⟨?_,rfl⟩
  simp[hle]
end Go.Proofs.YtjamgmbdilkbcaaGreat
