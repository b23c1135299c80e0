import Derived.Test.YtjamgmbdilkbcaaGreatLotAll21
set_option maxHeartbeats 2000000
set_option maxRecDepth 100000
namespace Go.Proofs.YtjamgmbdilkbcaaGreat
open Go.RowKit
theorem dc_append(a b:List Pr):dc (a++b)=dc a++dc b:=by simp[dc]
theorem snd_no{m:Pu.Md}{f:Pu.Fn}{D T:List (Nat × Fl.S)}{p:Option (Nat × Fl.S)}{a:Nat}{t:Fl.S}(RP:RInv m f D T p)(hp:(a,t)∈D){ok nx:Bool}(hok:ok=true ↔ (Fl.after m f (f.code.getD a (0,0)) t).isSome=true)(hnx:nextS (f.code.getD a (0,0)) a f.code.length=nx)(h:ok=false\/nx=false):¬Fl.Sound m f:=by
 cases hA:Fl.after m f (f.code.getD a (0,0)) t with
 | none=>exact rinv_no RP hp hA
 | some t'=>
  rw[hA]at hok
  have hok2:ok=true:=hok.2 rfl
  have hn:nx=false:=by rcases h with h|h;(rw[hok2]at h;cases h);exact h
  rw[hn]at hnx
  unfold nextS at hnx
  simp only[Bool.or_eq_false_iff,decide_eq_false_iff_not,not_or]at hnx
  refine rinv_next RP hp hA (j:=a+1) ?_ hnx.2
  simp only[Fl.leads]
  rw[if_neg (c:=(f.code.getD a (0,0)).1=0\/(f.code.getD a (0,0)).1=6\/(f.code.getD a (0,0)).1=18) (by simp only[not_or];exact hnx.1)]
  simp
theorem leads_lt{f:Pu.Fn}{a:Nat}(hj:(f.code.getD a (0,0)).1=6\/(f.code.getD a (0,0)).1=7->(f.code.getD a (0,0)).2.toNat<f.code.length)(hnx:nextS (f.code.getD a (0,0)) a f.code.length=true):∀j∈Fl.leads (f.code.getD a (0,0)) a,j<f.code.length:=by
 intro j hjm
 unfold nextS at hnx
 simp only[Bool.or_eq_true,decide_eq_true_eq]at hnx
 simp only[Fl.leads]at hjm
 rcases List.mem_append.1 hjm with h|h
 ·split at h
  ·rename_i hc
   rw[List.mem_singleton]at h;rw[h];exact hj hc
  ·simp at h
 ·split at h
  ·simp at h
  ·rename_i hc
   rw[List.mem_singleton]at h
   rw[h]
   rcases hnx with h2|h2
   ·exact absurd h2 hc
   ·exact h2
theorem leads_ret{x:Int × Int}{a:Nat}(h:Fl.leads x a≠[]):x.1≠0:=by
 intro h0
 apply h
 simp[Fl.leads,h0]
theorem cell_three(w:World)(x y z:Value)(t:TypeId):∀j u,[x,y,z][j]?=some u->(w.alloc (.cells #[x,y,z] t)).cell? ((⟨w.heap.size,0,none⟩:Addr).add j)=some u:=by
 intro j u hj
 have hadd:(⟨w.heap.size,0,none⟩:Addr).add j=⟨w.heap.size,j,none⟩:=by unfold Addr.add;split<;>simp_all
 rw[hadd]
 have hh:(w.alloc (.cells #[x,y,z] t)).heap[w.heap.size]?=some (.cells #[x,y,z] t):=heap_alloc_new w _
 rw[cell_of_row _ w.heap.size j #[x,y,z] t (0,0) hh]
 simpa using hj
theorem Tryz.info158:(Tryz.prog.info? 158).map (fun i=>(i.zero,i.size,i.bytes))=some (some (.agg #[.int .i64 0,.string ⟨#[]⟩,.string ⟨#[]⟩]),3,40):=by kernel_rfl
theorem MF.two{w wr:World}{mk mv:Value}{x:FV}(h:MF w wr mk mv x)(f:Pu.Fn)(t:Fl.S)(ht:t.stk=[]):
  LS w ((wr.alloc (.cells #[.int .i64 0,.string ⟨#[]⟩,.string (bs (spots (Fl.places f) t.full))] 158)).alloc (.cells #[.int .i64 0,.string ⟨#[]⟩,.string (bs (spots (Fl.places f) t.full))] 158)) f mk mv x (.slice (some ⟨wr.heap.size,0,none⟩) 1 1) (.slice (some ⟨wr.heap.size+1,0,none⟩) 1 1) [(0,t)] [(0,t)]:=by
 have b1:=(Below.refl wr.heap.size wr).alloc (Nat.le_refl _) (.cells #[.int .i64 0,.string ⟨#[]⟩,.string (bs (spots (Fl.places f) t.full))] 158)
 have b2:=b1.alloc (by simp) (.cells #[.int .i64 0,.string ⟨#[]⟩,.string (bs (spots (Fl.places f) t.full))] 158)
 have e:dc ([(0,t)].map (encP f))=[.int .i64 0,.string ⟨#[]⟩,.string (bs (spots (Fl.places f) t.full))]:=by
  simp[dc,encP,pc,ht,str]
 have hz:=h.sz
 refine⟨h.below b2 h.sz,?_,?_,fun k hk e2=>?_⟩
 ·rw[e]
  refine⟨rfl,.inr ⟨wr.heap.size,1,#[.int .i64 0,.string ⟨#[]⟩,.string (bs (spots (Fl.places f) t.full))],rfl,hz,?_,Nat.le_refl _,by unfold maxLen;omega,rfl,rfl⟩⟩
  rw[Below.heap_alloc _ _ _ (by simp)]
  exact heap_alloc_new wr _
 ·rw[e]
  refine⟨rfl,.inr ⟨wr.heap.size+1,1,#[.int .i64 0,.string ⟨#[]⟩,.string (bs (spots (Fl.places f) t.full))],rfl,by omega,?_,Nat.le_refl _,by unfold maxLen;omega,rfl,rfl⟩⟩
  exact heap_alloc2_new wr _ _
 ·simp only[Value.ownBlock,Option.some.injEq]at hk e2
  omega
def lenV:Value->Nat
 | .slice _ n _=>n
 | _=>0
theorem rsound_any(m:Pu.Md)(f:Pu.Fn)(mk mv:Value)(x:FV)(w:World)(hm:MdR w w.heap.size mk mv m)(hf:FnR w w.heap.size x f)(mo:MdOk m)(fo:FnOk m f)(fl:FnLow m f)(po:∀i,i<f.code.length->PutOk m f (f.code.getD i (0,0)))(hj:∀i,i<f.code.length->(f.code.getD i (0,0)).1=6\/(f.code.getD i (0,0)).1=7->(f.code.getD i (0,0)).2.toNat<f.code.length)(hc:0<f.code.length):
  Calls Tryz.prog 56 #[.agg #[mk,mv],.agg #[x.p,x.r,x.l,x.c]] w fun e w'=>RSndOut w w' m f e:=by
 obtain⟨x1,y1,x2,y2,x3,y3,x4,y4,rfl⟩:=hf.shape
 obtain⟨a1,c1,rfl⟩:=hm.k.shape
 obtain⟨a2,c2,rfl⟩:=hm.v.shape
 simp only
 have bm0:F2 (w.alloc (.cells #[.slice a1 m.kinds.length c1,.slice a2 m.funcs.length c2] 38)) w.heap.size 38 (.slice a1 m.kinds.length c1) (.slice a2 m.funcs.length c2):=heap_alloc_new w _
 have bl0:=(Below.refl w.heap.size w).alloc (Nat.le_refl _) (.cells #[.slice a1 m.kinds.length c1,.slice a2 m.funcs.length c2] 38)
 have bl1:=bl0.alloc (by simp) (.cells #[.slice x1 f.params.length y1,.slice x2 f.results.length y2,.slice x3 f.locals.length y3,.slice x4 f.code.length y4] 62)
 have M0:MF w ((w.alloc (.cells #[.slice a1 m.kinds.length c1,.slice a2 m.funcs.length c2] 38)).alloc (.cells #[.slice x1 f.params.length y1,.slice x2 f.results.length y2,.slice x3 f.locals.length y3,.slice x4 f.code.length y4] 62)) (.slice a1 m.kinds.length c1) (.slice a2 m.funcs.length c2) ⟨.slice x1 f.params.length y1,.slice x2 f.results.length y2,.slice x3 f.locals.length y3,.slice x4 f.code.length y4⟩:=
  ⟨(Below.heap_alloc _ _ _ (by simp)).trans bm0,heap_alloc2_new w _ _,bl1,by simp⟩
 have hp8:=fo.np
 have hp1:f.params.length<=8/\f.locals.length<=8:=by have:=hp8;unfold Fl.places at this;rw[List.length_append]at this;omega
 obtain⟨hp1,hp2⟩:=hp1
 have hlp:∀k∈f.params,-1000<=k/\k<=1000:=fun k hk=>by have:=fl.pl k (List.mem_append_left _ hk);have:=mo.nk;omega
 have HM:=hid hm
 have HF:=hid hf
 have HSI:=hid (spots_init f hp8)
 have C0:=rletters_any f.params _ _ ((hf.below bl1).wide bl1.size).p (by omega) hlp
 have D0:=hid C0
 simp only at D0
 clear C0 hm hf bm0 bl0 bl1 hlp
 generalize hW0:(w.alloc (.cells #[.slice a1 m.kinds.length c1,.slice a2 m.funcs.length c2] 38)).alloc (.cells #[.slice x1 f.params.length y1,.slice x2 f.results.length y2,.slice x3 f.locals.length y3,.slice x4 f.code.length y4] 62)=W0 at *
 have HW:=hid hW0
 clear hW0
 go_enter Tryz.func56,Tryz.ntmps56
 go_wp2_with fail
 rw[HW.out]
 refine D0.out.mono ?_
 rintro e w1 ⟨rfl,hb1⟩
 have M1:=M0.below hb1 M0.sz
 have hz1:=M1.sz
 have HS1:Hid (str f.params=bs (f.params.map lt++List.replicate 0 45)):=by show _=_;rw[str_bs];simp
 rw[HS1.out]
 obtain⟨SP,hSP⟩:∃SP:ByteArray,SP=bs (f.params.map lt++List.replicate 0 45):=⟨_,rfl⟩
 rw[<-hSP]
 have HSP:=hid hSP
 clear hSP HS1 D0 hb1 M0 HW
 have M2:=M1.below ((Below.refl w1.heap.size w1).alloc (Nat.le_refl _) (.cells #[.int .i64 0,.string ⟨#[]⟩,.string SP] 158)) hz1
 have fb2:F3 (w1.alloc (.cells #[.int .i64 0,.string ⟨#[]⟩,.string SP] 158)) w1.heap.size 158 (.int .i64 0) (.string ⟨#[]⟩) (.string SP):=heap_alloc_new w1 _
 rw[HSP.out]at fb2 M2
 clear M1
 go_wp2_with fail
 go_loopw [6] (fun i wr=>∃k:Nat,k<=f.locals.length/\i=.int .i64 k/\MF w wr (.slice a1 m.kinds.length c1) (.slice a2 m.funcs.length c2) ⟨.slice x1 f.params.length y1,.slice x2 f.results.length y2,.slice x3 f.locals.length y3,.slice x4 f.code.length y4⟩/\F3 wr w1.heap.size 158 (.int .i64 0) (.string ⟨#[]⟩) (.string (bs (f.params.map lt++List.replicate k 45)))) (fun i _=>f.locals.length-(intOf i).toNat)
 case atStart=>rw[HSP.out];exact⟨0,Nat.zero_le _,rfl,M2,fb2⟩
 case round=>
  clear M2 fb2 HSP
  obtain⟨k,hk,rfl,Mk,fk⟩:=hrel
  have d0:=Mk.f.c2
  simp only at d0
  have e2:=fk.c2
  have z2:=fk.fz 2
  by_cases hlt:k<f.locals.length
  ·obtain⟨SK,hSK⟩:∃SK:ByteArray,SK=bs (f.params.map lt++List.replicate k 45):=⟨_,rfl⟩
   have HSK:Hid (bs (f.params.map lt++List.replicate (k+1) 45)=SK++⟨#[45]⟩):=by
    show _=_
    rw[hSK,List.replicate_succ',<-List.append_assoc,<-bs_append]
    rfl
   have hsz:SK.size=f.params.length+k:=by rw[hSK,bs_size];simp
   rw[<-hSK]at fk e2
   clear hSK
   have t1:(9223372036854775807<f.params.length+k+1)=False:=by simp;omega
   have f5:=fk.set2 (.string (SK++⟨#[45]⟩))
   have M5:=Mk.below ((Below.refl (w.heap.size+2) wr).setCell (p:=⟨w1.heap.size,2,none⟩) hz1 (.string (SK++⟨#[45]⟩))) (Nat.le_refl _)
   clear Mk fk
   go_wp2
   go_roundw
   case rel=>exact⟨k+1,hlt,by go_num,M5,by rw[HSK.out];exact f5⟩
   case measure=>simp[intOf];omega
  ·have hkl:k=f.locals.length:=by omega
   subst hkl
   rw[<-HSI.out]at fk e2
   clear hlt hk HSI
   have e0:=fk.c0
   have e1:=fk.c1
   have h00:encP f (0,Fl.init f)=⟨0,⟨#[]⟩,bs (spots (Fl.places f) (Fl.init f).full)⟩:=rfl
   have R0:=hid (rinv_start m f hp8 hc)
   have LS0:Hid (LS w ((wr.alloc (.cells #[.int .i64 0,.string ⟨#[]⟩,.string (bs (spots (Fl.places f) (Fl.init f).full))] 158)).alloc (.cells #[.int .i64 0,.string ⟨#[]⟩,.string (bs (spots (Fl.places f) (Fl.init f).full))] 158)) f (.slice a1 m.kinds.length c1) (.slice a2 m.funcs.length c2) ⟨.slice x1 f.params.length y1,.slice x2 f.results.length y2,.slice x3 f.locals.length y3,.slice x4 f.code.length y4⟩ (.slice (some ⟨wr.heap.size,0,none⟩) 1 1) (.slice (some ⟨wr.heap.size+1,0,none⟩) 1 1) [(0,Fl.init f)] [(0,Fl.init f)]):=hid (Mk.two f (Fl.init f) rfl)
   have fa:F3 (wr.alloc (.cells #[.int .i64 0,.string ⟨#[]⟩,.string (bs (spots (Fl.places f) (Fl.init f).full))] 158)) w1.heap.size 158 (.int .i64 0) (.string ⟨#[]⟩) (.string (bs (spots (Fl.places f) (Fl.init f).full))):=(Below.heap_alloc _ _ _ fk.lt).trans fk
   clear h00
   generalize bs (spots (Fl.places f) (Fl.init f).full)=SI at *
   have g0:=fa.c0
   have g1:=fa.c1
   have g2:=fa.c2
   clear fa
   have hzw:=Mk.sz
   go_wp2_with fail
   clear e0 e1 e2 g0 g1 g2 d0 z2 fk
   go_loopw [7,8] (fun d t wr=>∃D T:List (Nat × Fl.S),RInv m f D T none/\LS w wr f (.slice a1 m.kinds.length c1) (.slice a2 m.funcs.length c2) ⟨.slice x1 f.params.length y1,.slice x2 f.results.length y2,.slice x3 f.locals.length y3,.slice x4 f.code.length y4⟩ d t D T) (fun d t _=>2*(f.code.length-lenV d)+lenV t)
   case atStart=>exact⟨_,_,R0.out,LS0.out⟩
   case round=>
    clear R0 LS0 Mk hzw
    obtain⟨D,T,RI,LL⟩:=hrel
    rcases List.eq_nil_or_concat T with rfl|⟨T',p,rfl⟩
    ·have FIN:Hid (RSndOut w wr m f (.returned (.bool true))):=⟨true,rfl,by simp[rinv_end RI],LL.mf.bl⟩
     obtain⟨at',ct,ht⟩:=owns_shape LL.ot
     simp only[List.map_nil,List.length_nil]at ht
     subst ht
     clear RI LL
     go_wp2
     go_ret
     exact FIN.out
    ·rw[List.concat_eq_append]at RI LL
     obtain⟨RP,hpD⟩:=rinv_pop RI
     obtain⟨a,t⟩:=p
     have hTl:T'.length+1<=1000:=by
      have:=RI.tl;have:=RI.len;have:=fo.nc;simp only[List.length_append,List.length_singleton]at *;omega
     have ha:=RP.lt _ hpD
     have hwf:=RP.wf _ hpD
     simp only at ha hwf
     have PR:=owns_pairs LL.ot
     rcases LL.ot.2 with ⟨_,hn⟩|⟨g,cap,cur,hgv,hB,hg,hnc,hcm,hcs,htake⟩
     ·simp at hn
     simp only[List.map_append,List.map_cons,List.map_nil,List.length_append,List.length_map,List.length_singleton]at hgv
     subst hgv
     have OT:wr.ownsRow (w.heap.size+2) 158 3 (.slice (some ⟨g,0,none⟩) T'.length cap) (T'.map (encP f)).length (dc (T'.map (encP f))):=by
      have h:=LL.ot
      rw[List.map_append,dc_append]at h
      simp only[List.length_append,List.length_map,List.map_cons,List.map_nil,List.length_singleton]at h
      rw[List.length_map]
      exact owns_front h (by rw[dc_len,List.length_map]) (by omega) rfl
     have LL2:LS w wr f (.slice a1 m.kinds.length c1) (.slice a2 m.funcs.length c2) ⟨.slice x1 f.params.length y1,.slice x2 f.results.length y2,.slice x3 f.locals.length y3,.slice x4 f.code.length y4⟩ u7 (.slice (some ⟨g,0,none⟩) T'.length cap) D T':=⟨LL.mf,LL.od,OT,LL.ne⟩
     obtain⟨_,_,g',o',hsl,h1,h2⟩:=PR
     simp only[List.map_append,List.map_cons,List.map_nil,List.length_append,List.length_map,List.length_singleton]at hsl h1 h2
     obtain⟨hgg,hglt⟩:=h1 (by omega)
     simp only[Value.slice.injEq]at hsl
     rw[<-hsl.1]at hgg
     simp only[Option.some.injEq,Addr.mk.injEq,and_true]at hgg
     obtain⟨rfl,rfl⟩:=hgg
     obtain⟨k0,k1,k2⟩:=h2 T'.length (by omega)
     have hget:(T'.map (encP f)++[encP f (a,t)]).getD T'.length prD=encP f (a,t):=by
      rw[List.getD_eq_getElem?_getD,List.getElem?_append_right (by simp)];simp
     rw[hget]at k0 k1 k2
     simp only[encP,Nat.zero_add]at k0 k1 k2
     have hkc:T'.length+1<=cap:=by simpa using hnc
     clear h1 h2 hsl hget OT LL RI hg hnc hcm hcs htake cur
     obtain⟨k,hkT⟩:∃k,k=T'.length:=⟨_,rfl⟩
     rw[<-hkT]at k0 k1 k2 hTl LL2 hkc ⊢
     have HKT:=hid hkT
     clear hkT
     have wk:wrap64 ((k:Int)+1-1)=k:=by unfold wrap64;omega
     have wk1:(0:Int)<=(k:Int):=by omega
     have wk2:(k:Int)<=(cap:Int):=by omega
     have wk3:k<=cap:=by omega
     have hzr:=LL2.mf.sz
     have LL3:=LL2.below ((Below.refl wr.heap.size wr).alloc (Nat.le_refl _) (.cells #[.int .i64 a,.string (str t.stk),.string (bs (spots (Fl.places f) t.full))] 158))
     have fp3:F3 (wr.alloc (.cells #[.int .i64 a,.string (str t.stk),.string (bs (spots (Fl.places f) t.full))] 158)) wr.heap.size 158 (.int .i64 a) (.string (str t.stk)) (.string (bs (spots (Fl.places f) t.full))):=heap_alloc_new wr _
     have C1:=rafter_any m f a t _ _ _ _ ((HM.out.below LL3.mf.bl).wide LL3.mf.bl.size) ((HF.out.below LL3.mf.bl).wide LL3.mf.bl.size) mo fo fl hwf.ok ha
     have D1:=hid C1
     unfold PV at D1
     simp only at D1
     clear C1 LL2
     have m0:=LL3.mf.m.c0
     have m1:=LL3.mf.m.c1
     have f0:=LL3.mf.f.c0
     have f1:=LL3.mf.f.c1
     have f2:=LL3.mf.f.c2
     have f3:=LL3.mf.f.c3
     simp only at f0 f1 f2 f3
     generalize str t.stk=S1 at *
     generalize bs (spots (Fl.places f) t.full)=S2 at *
     go_wp2_with fail
     refine D1.out.mono ?_
     rintro e w2 ⟨ok,qv,rfl,hok,hqv,⟨b,s1,s2,rfl⟩,hb2⟩
     clear D1 m0 m1 f0 f1 f2 f3 k0 k1 k2 wk wk1 wk2 wk3
     have LL4:=LL3.below hb2
     have fp4:=(hb2.block _ fp3.lt).trans fp3
     have fp4:F3 w2 wr.heap.size 158 (.int .i64 a) (.string S1) (.string S2):=fp4
     have hzq:wr.heap.size<w2.heap.size:=fp4.lt
     have HOK:=hid hok
     have HQV:=hid hqv
     have HKC:=hid hkc
     clear LL3 fp3 hb2 hok hqv hkc
     have al:=(Below.refl w2.heap.size w2).alloc (Nat.le_refl _) (.cells #[.int .i64 b,.string s1,.string s2] 158)
     have LL5:=LL4.below al
     have fp5:F3 (w2.alloc (.cells #[.int .i64 b,.string s1,.string s2] 158)) wr.heap.size 158 (.int .i64 a) (.string S1) (.string S2):=(al.block _ fp4.lt).trans fp4
     have fq5:F3 (w2.alloc (.cells #[.int .i64 b,.string s1,.string s2] 158)) w2.heap.size 158 (.int .i64 b) (.string s1) (.string s2):=heap_alloc_new w2 _
     have C2:=rleads_any f a _ _ ((HF.out.below LL5.mf.bl).wide LL5.mf.bl.size) fo.nc (fl.arg a ha).1 ha
     have D2:=hid C2
     simp only at D2
     clear C2
     have f0:=LL5.mf.f.c0
     have f1:=LL5.mf.f.c1
     have f2:=LL5.mf.f.c2
     have f3:=LL5.mf.f.c3
     have p0:=fp5.c0
     simp only at f0 f1 f2 f3
     have hDb:∀kk,u7.ownBlock=some kk->kk<w2.heap.size:=fun kk hk=>(LL4.od.lt kk hk).2
     have hTb:g<w2.heap.size:=(LL4.ot.lt g rfl).2
     have HDb:=hid hDb
     clear hDb LL4 fp4 al
     go_wp2_with fail
     refine D2.out.mono ?_
     rintro e w3 ⟨lv,rfl,hlv,hb3,hlb⟩
     have LL6:=LL5.below hb3
     have fq6:F3 w3 w2.heap.size 158 (.int .i64 b) (.string s1) (.string s2):=(hb3.block _ fq5.lt).trans fq5
     have hlb2:∀kk,lv.ownBlock=some kk->w2.heap.size+1<=kk:=fun kk hk=>by have:=hlb kk hk;simpa using this
     have HLV:=hid hlv
     have HLB:=hid hlb2
     clear hlb hlb2 hlv D2 f0 f1 f2 f3 p0 LL5 fp5 fq5 hb3
     have hnx:=hid (rfl:nextS (f.code.getD a (0,0)) a f.code.length=nextS (f.code.getD a (0,0)) a f.code.length)
     generalize hNX:nextS (f.code.getD a (0,0)) a f.code.length=nx at *
     have HNX:=hid hNX
     clear hNX hnx
     by_cases hno:ok=false\/nx=false
     ·have FIN:Hid (RSndOut w w3 m f (.returned (.bool false))):=by
       refine⟨false,rfl,?_,LL6.mf.bl⟩
       have hns:=snd_no RP hpD HOK.out HNX.out hno
       simp[hns]
      have hno2:ok=true->nx=false:=fun h=>by rcases hno with h2|h2;(rw[h]at h2;cases h2);exact h2
      clear HOK HQV HNX hno
      clear LL6 fq6 HLV HLB
      cases ok with
      | false=>
       go_wp2
       go_ret
       exact FIN.out
      | true=>
       have hnx:=hno2 rfl
       subst hnx
       go_wp2
       go_ret
       exact FIN.out
     ·obtain⟨rfl,rfl⟩:ok=true/\nx=true:=by cases ok<;>cases nx<;>simp at hno ⊢
      clear hno
      obtain⟨t',hA⟩:∃t',Fl.after m f (f.code.getD a (0,0)) t=some t':=Option.isSome_iff_exists.1 (HOK.out.1 rfl)
      have HA:=hid hA
      have hwt:StWf m f t':=after_wf (po a ha) (fo.op a ha) hwf hA
      have hll:=leads_lt (hj a ha) HNX.out
      have hss:Fl.leads (f.code.getD a (0,0)) a≠[]->s1=str t'.stk/\s2=bs (spots (Fl.places f) t'.full):=fun hne=>by
       have h:=HQV.out t' hA (leads_ret hne)
       unfold PV at h
       simp only[Value.agg.injEq]at h
       have h3:=congrArg Array.toList h
       simp only[List.cons.injEq,Value.string.injEq,and_true]at h3
       exact h3.2
      have HSS:=hid hss
      have HLL:=hid hll
      clear hA hss hll HOK HQV HNX
      have HG:Hid (∀j∈Fl.leads (f.code.getD a (0,0)) a,∀τ,Fl.Good m f τ->τ j=some t'):=hid fun j hj τ hτ=>rinv_good RP hpD HA.out hj τ hτ
      have HO:Hid (∀D T p,RInv m f D T p->(a,t)∈D->∀j∈Fl.leads (f.code.getD a (0,0)) a,∀y∈D,y.1=j->y.2≠t'->¬Fl.Sound m f):=hid fun D T p RI hD j hj y hy h1 h2=>rinv_other RI hD HA.out hj hy h1 h2
      have HC:Hid (∀D T,RInv m f D T (some (a,t))->(∀j∈Fl.leads (f.code.getD a (0,0)) a,(j,t')∈D)->RInv m f D T none):=hid fun D T RI h=>rinv_close RI ⟨t',HA.out,h⟩
      obtain⟨L,hL⟩:∃L,L=Fl.leads (f.code.getD a (0,0)) a:=⟨_,rfl⟩
      rw[<-hL]at HSS HLL HG HO HC HLV
      have hL2:L.length<=2:=by rw[hL];simp only[Fl.leads];split<;>split<;>simp
      clear hL HA
      obtain⟨i0,hi0,hz0,hz1,hz2⟩:=info_parts Tryz.info158
      obtain⟨al,cl,hal⟩:=HLV.out.shape
      rw[List.length_map]at hal
      subst hal
      have LJ0:LJ w w3 f (.slice a1 m.kinds.length c1) (.slice a2 m.funcs.length c2) ⟨.slice x1 f.params.length y1,.slice x2 f.results.length y2,.slice x3 f.locals.length y3,.slice x4 f.code.length y4⟩ u7 (.slice (some ⟨g,0,none⟩) k cap) D T' w2.heap.size (.int .i64 b) s1 s2 (.slice al L.length cl) (L.map Int.ofNat):=by
       refine⟨LL6,fq6,HLV.out,by omega,fun e=>?_,fun e=>?_,fun hl kk hk=>⟨?_,fun e=>?_,fun e=>?_,fun e=>?_⟩⟩
       ·have:=HDb.out _ e;omega
       ·simp only[Value.ownBlock,Option.some.injEq]at e;omega
       ·obtain⟨_,_,bb,oo,hv,h1,_⟩:=HLV.out
        have h2:=h1 hl
        simp only[Value.slice.injEq]at hv
        rw[hv.1,h2.1]at hk
        simp only[Value.ownBlock,Option.some.injEq]at hk
        omega
       ·have:=HDb.out _ e;have:=HLB.out _ hk;omega
       ·simp only[Value.ownBlock,Option.some.injEq]at e;have:=HLB.out _ hk;omega
       ·have:=HLB.out _ hk;omega
      clear LL6 fq6 HLV HLB HDb
      obtain⟨ad,cd,had⟩:=owns_shape LJ0.ls.od
      rw[List.length_map]at had
      subst had
      go_wp2_with fail
      go_loopw [7,8,14] (fun d tt i wr=>∃(D2 T2:List (Nat × Fl.S)) (n:Nat) (a0:Value),n<=L.length/\i=.int .i64 n/\RInv m f D2 T2 (some (a,t))/\LJ w wr f (.slice a1 m.kinds.length c1) (.slice a2 m.funcs.length c2) ⟨.slice x1 f.params.length y1,.slice x2 f.results.length y2,.slice x3 f.locals.length y3,.slice x4 f.code.length y4⟩ d tt D2 T2 w2.heap.size a0 s1 s2 (.slice al L.length cl) (L.map Int.ofNat)/\(∀j∈L.take n,(j,t')∈D2)/\(a,t)∈D2/\2*(f.code.length-D2.length)+T2.length<=2*(f.code.length-D.length)+k) (fun _ _ i _=>L.length-(intOf i).toNat)
      case atStart=>exact⟨D,T',0,_,Nat.zero_le _,rfl,RP,LJ0,by simp,hpD,by rw[HKT.out];exact Nat.le_refl _⟩
      case round=>
       clear LJ0 RP hpD
       obtain⟨D2,T2,n,a0,hn,rfl,RI,LK,hin,hpD2,hmeas⟩:=hrel
       obtain⟨ad2,cd2,had⟩:=owns_shape LK.ls.od
       rw[List.length_map]at had
       subst had
       obtain⟨at2,ct2,hat⟩:=owns_shape LK.ls.ot
       rw[List.length_map]at hat
       subst hat
       have hD2:=RI.len
       have hT2:=RI.tl
       have hnc:=fo.nc
       by_cases hlt:n<L.length
       ·obtain⟨_,_,bb,oo,hv,h1,h2⟩:=LK.l
        simp only[List.length_map]at hv h1 h2
        obtain⟨haleq,hbb⟩:=h1 (by omega)
        simp only[Value.slice.injEq]at hv
        obtain rfl:al=some ⟨bb,oo,none⟩:=hv.1.trans haleq
        have cj:=h2 n hlt
        obtain⟨j,hjL⟩:∃j,j=L.getD n 0:=⟨_,rfl⟩
        have hjl:L[n]?=some j:=by rw[hjL,List.getD_eq_getElem?_getD,List.getElem?_eq_getElem hlt];rfl
        have hjm:j∈L:=List.mem_of_getElem? hjl
        have hjv:(L.map Int.ofNat).getD n 0=(j:Int):=by rw[List.getD_eq_getElem?_getD,List.getElem?_map,hjl];rfl
        rw[hjv]at cj
        obtain⟨hs1,hs2⟩:=HSS.out (List.ne_nil_of_mem hjm)
        have HE:Hid ((⟨j,s1,s2⟩:Pr)=encP f (j,t')):=by show _=_;rw[hs1,hs2];rfl
        have hjn:=HLL.out j hjm
        have HTK:Hid (∀j'∈L.take (n+1),j'∈L.take n\/j'=j):=hid fun j' h=>by
         rw[List.take_succ_eq_append_getElem hlt,List.mem_append,List.mem_singleton]at h
         rcases h with h|h
         ·exact .inl h
         ·right;rw[h];have:=List.getElem?_eq_getElem hlt;rw[hjl]at this;exact(Option.some.inj this).symm
        clear hv haleq h1 h2 hjv hs1 hs2 hjl hjL
        have z0:=LK.bq.fz 0
        have b0:=LK.bq.c0
        have LK1:=LK.set (.int .i64 j)
        have b1:=LK1.bq.c1
        have b2:=LK1.bq.c2
        have bb0:=LK1.bq.c0
        have C3:=rknown_any (D2.map (encP f)) ⟨j,s1,s2⟩ (.slice ad2 D2.length cd2) (wr.setCell ⟨w2.heap.size,0,none⟩ (.int .i64 j)) (by have:=owns_pairs LK1.ls.od;exact this) (by rw[List.length_map];omega)
        have D3:=hid C3
        unfold prV at D3
        simp only at D3
        clear C3 LK
        go_wp2_with fail
        refine D3.out.mono ?_
        rintro e w4 ⟨rfl,hb4⟩
        have LK4:=LK1.below hb4
        have hisk:isK (D2.map (encP f)) ⟨j,s1,s2⟩=true ↔ (j,t')∈D2:=by rw[HE.out];exact isK_iff mo fl hp8 RI.wf hwt
        have hoty:othK (D2.map (encP f)) ⟨j,s1,s2⟩=true->¬Fl.Sound m f:=fun h=>by
         rw[HE.out]at h
         obtain⟨y,hy,h1,h2⟩:=othK_yes h
         exact HO.out D2 T2 _ RI hpD2 j hjm y hy h1 h2
        have hotn:othK (D2.map (encP f)) ⟨j,s1,s2⟩=false->∀x∈D2,x.1=j->x=(j,t'):=fun h=>by
         rw[HE.out]at h
         exact othK_no mo fl hp8 RI.wf (q:=(j,t')) hwt h
        clear D3 LK1 b0 bb0 b1 b2 z0 cj hb4
        generalize isK (D2.map (encP f)) ⟨j,s1,s2⟩=IS at *
        generalize othK (D2.map (encP f)) ⟨j,s1,s2⟩=OT at *
        have HISK:=hid hisk
        have HOTY:=hid hoty
        have HOTN:=hid hotn
        clear hisk hoty hotn
        cases OT with
        | true=>
         have FIN:Hid (RSndOut w w4 m f (.returned (.bool false))):=by
          refine⟨false,rfl,?_,LK4.ls.mf.bl⟩
          simp[HOTY.out rfl]
         clear LK4
         go_wp2
         go_ret
         exact FIN.out
        | false=>
         cases IS with
         | true=>
          have HMEM:=hid (HISK.out.1 rfl)
          clear HISK
          go_wp2
          go_roundw
          case rel=>exact⟨D2,T2,n+1,_,hlt,by go_num,RI,LK4,fun j' h=>by rcases HTK.out j' h with h|rfl;(exact hin j' h);exact HMEM.out,hpD2,hmeas⟩
          case measure=>simp[intOf];omega
         | false=>
          have HMEM:Hid ((j,t') ∉ D2):=hid fun h=>by have:=HISK.out.2 h;cases this
          have HNEW:=hid (rinv_lead RI (q:=(j,t')) (HG.out j hjm) hjn hwt HMEM.out (HOTN.out rfl))
          clear HISK HOTN HOTY
          have q0:=LK4.bq.c0
          have q1:=LK4.bq.c1
          have q2:=LK4.bq.c2
          have LKA:=LK4.below ((Below.refl w4.heap.size w4).alloc (Nat.le_refl _) (.cells #[.int .i64 j,.string s1,.string s2] 158))
          have oA:=LKA.ls.od
          have hzA:=LKA.ls.mf.sz
          simp only[List.length_map]at oA
          clear LK4
          go_wp2_with (at_builtin;refine wpList_append_keep rfl _ _ 159 rfl (w.heap.size+2) 158 i0 (.agg #[.int .i64 0,.string ⟨#[]⟩,.string ⟨#[]⟩]) 3 40 Tryz.underlying159 hi0 hz0 hz1 hz2 rfl (by decide) _ _ _ rfl oA ⟨w4.heap.size,0,none⟩ 1 1 [.int .i64 j,.string s1,.string s2] rfl rfl (cell_three _ _ _ _ _) ?t2 ?t3 ?t4 ?t5 (by decide) ?_)
          case t2=>intro u hu;simp at hu;rcases hu with rfl|rfl|rfl<;>rfl
          case t3=>unfold maxLen;omega
          case t4=>omega
          case t5=>exact hzA
          intro v5 w5 hv5 hg5 _ hl5
          obtain⟨av5,cv5,rfl⟩:=owns_shape hv5
          have HDC:Hid (∀E:List (Nat × Fl.S),dc (E.map (encP f))++[.int .i64 j,.string s1,.string s2]=dc ((E++[(j,t')]).map (encP f))):=hid fun E=>by
           rw[List.map_append,List.map_singleton,dc_snoc,<-HE.out];rfl
          have LKB:=LKA.moreD (D':=D2++[(j,t')]) hg5 (by rw[<-HDC.out];simpa using hv5) (by simpa using hl5)
          clear LKA oA hv5 hg5 hl5 q0 q1 q2
          have q0:=LKB.bq.c0
          have q1:=LKB.bq.c1
          have q2:=LKB.bq.c2
          have LKC:=LKB.below ((Below.refl w5.heap.size w5).alloc (Nat.le_refl _) (.cells #[.int .i64 j,.string s1,.string s2] 158))
          have oB:=LKC.ls.ot
          have hzB:=LKC.ls.mf.sz
          simp only[List.length_map]at oB
          clear LKB
          go_wp2_with (at_builtin;refine wpList_append_keep rfl _ _ 159 rfl (w.heap.size+2) 158 i0 (.agg #[.int .i64 0,.string ⟨#[]⟩,.string ⟨#[]⟩]) 3 40 Tryz.underlying159 hi0 hz0 hz1 hz2 rfl (by decide) _ _ _ rfl oB ⟨w5.heap.size,0,none⟩ 1 1 [.int .i64 j,.string s1,.string s2] rfl rfl (cell_three _ _ _ _ _) ?s2 ?s3 ?s4 ?s5 (by decide) ?_)
          case s2=>intro u hu;simp at hu;rcases hu with rfl|rfl|rfl<;>rfl
          case s3=>unfold maxLen;omega
          case s4=>omega
          case s5=>exact hzB
          intro v6 w6 hv6 hg6 _ hl6
          obtain⟨av6,cv6,rfl⟩:=owns_shape hv6
          have LKD:=LKC.moreT (T':=T2++[(j,t')]) hg6 (by rw[<-HDC.out];simpa using hv6) (by simpa using hl6)
          clear LKC oB hv6 hg6 hl6 q0 q1 q2
          have hD3:=HNEW.out.len
          simp only[List.length_append,List.length_singleton]at hD3
          go_wp2
          go_roundw
          case rel=>
           refine⟨D2++[(j,t')],T2++[(j,t')],n+1,_,hlt,by go_num,HNEW.out,LKD,fun j' h=>?_,List.mem_append_left _ hpD2,?_⟩
           ·rcases HTK.out j' h with h|rfl
            ·exact List.mem_append_left _ (hin j' h)
            ·simp
           ·simp only[List.length_append,List.length_singleton];omega
          case measure=>simp[intOf];omega
       ·have hnl:n=L.length:=by omega
        subst hnl
        rw[List.take_of_length_le (Nat.le_refl _)]at hin
        have HEND:=hid (HC.out D2 T2 RI hin)
        clear hlt hn hin
        go_wp2
        go_roundw
        case rel=>exact⟨D2,T2,HEND.out,LK.ls⟩
        case measure=>simp[lenV];omega
theorem isMd_jump{m:Pu.Md}(h:Pu.isMd m=true){f:Pu.Fn}(hf:f∈m.funcs):0<f.code.length/\∀i,i<f.code.length->(f.code.getD i (0,0)).1=6\/(f.code.getD i (0,0)).1=7->(f.code.getD i (0,0)).2.toNat<f.code.length:=by
 simp only[Pu.isMd,Pu.isFn,Pu.isCode,Bool.and_eq_true,decide_eq_true_eq,List.all_eq_true]at h
 obtain⟨_,_,_,h4⟩:=h
 obtain⟨_,_,_,c1,_,c3⟩:=h4 f hf
 refine⟨c1,fun i hi hop=>?_⟩
 have hx:=c3 (f.code.getD i (0,0)) (by rw[List.getD_eq_getElem?_getD,List.getElem?_eq_getElem hi];exact List.getElem_mem hi)
 generalize f.code.getD i (0,0)=x at *
 simp only[Pu.isInstr,Bool.and_eq_true,decide_eq_true_eq]at hx
 obtain⟨_,x4⟩:=hx
 unfold Pu.argHi at x4
 rw[if_neg (by omega),if_pos hop]at x4
 omega
theorem rcheck_any(b:ByteArray)(w:World)(hs:b.size<=maxLen):
  Calls Tryz.prog 32 #[.string b] w fun e w'=>ChkOut w w' b e:=by
 go_enter Tryz.func32,Tryz.ntmps32
 go_wp2_with fail
 refine(rdecode_any b _ hs).mono ?_
 rintro e w1 ⟨ho,hb1⟩
 obtain⟨kv,vv,rfl,hr⟩:=ho.one
 clear ho
 have HIS:Hid ((Pu.decode b).2.1=0->Pu.isMd (Pu.decode b).1=true):=fun h=>dec_is h
 have HC:Hid (∀e p,((¬(Pu.decode b).2.1=0/\e=(Pu.decode b).2.1/\p=(Pu.decode b).2.2)\/((Pu.decode b).2.1=0/\FlowSays (Pu.decode b).1 e p))->ChkSays b e p):=fun e p h=>h
 generalize (Pu.decode b).1=m at *
 generalize (Pu.decode b).2.1=ev at *
 generalize (Pu.decode b).2.2=av at *
 obtain⟨a1,c1,rfl⟩:=hr.k.shape
 obtain⟨ao,cap,bf,off,hvv,h1,h2⟩:=hr.v
 subst hvv
 have H1:=hid h1
 have H2:=hid h2
 have HM:=hid hr
 clear h1 h2 hr
 have hbA:=(Below.refl w1.heap.size w1).alloc (Nat.le_refl _) (.cells #[.slice a1 m.kinds.length c1,.slice ao m.funcs.length cap] 38)
 have mb0:F2 (w1.alloc (.cells #[.slice a1 m.kinds.length c1,.slice ao m.funcs.length cap] 38)) w1.heap.size 38 (.slice a1 m.kinds.length c1) (.slice ao m.funcs.length cap):=heap_alloc_new w1 _
 have hb2:=hb1.trans (hbA.mono hb1.size)
 have hz:=hb1.size
 by_cases hev:ev=0
 ·subst hev
  have HI:=hid (HIS.out rfl)
  have HC0:Hid (∀e p,FlowSays m e p->ChkSays b e p):=fun e p h=>HC.out e p (.inr ⟨rfl,h⟩)
  have HX:Hid (∀wr,Below w1.heap.size w1 wr->Below w.heap.size w wr):=hid fun wr h=>hb1.trans (h.mono hb1.size)
  have hsm:=(is_small HI.out).2
  clear HIS HC hb1 hb2
  go_wp2_with fail
  go_loopw [7] (fun i wr=>∃k:Nat,k<=m.funcs.length/\i=.int .i64 k/\(∀j,j<k->Fl.Sound m (m.funcs.getD j ⟨[],[],[],[]⟩))/\F2 wr w1.heap.size 38 (.slice a1 m.kinds.length c1) (.slice ao m.funcs.length cap)/\Below w1.heap.size w1 wr) (fun i _=>m.funcs.length-(intOf i).toNat)
  case atStart=>exact⟨0,Nat.zero_le _,rfl,fun j hj=>by omega,mb0,hbA⟩
  case round=>
   obtain⟨k,hk,rfl,hg,mb,bl⟩:=hrel
   clear mb0 hbA
   have HG:=hid hg
   clear hg
   have d0:=mb.c0
   have d1:=mb.c1
   have l0:=mb.lt
   by_cases hlt:k<m.funcs.length
   ·obtain⟨rfl,hbB⟩:=H1.out (by omega)
    obtain⟨y,g0,g1,g2,g3,hy⟩:=H2.out k hlt
    obtain⟨x1,y1,x2,y2,x3,y3,x4,y4,rfl⟩:=hy.shape
    have k0:=(bl.cell (p:=⟨bf,off+k*4,none⟩) hbB).trans g0
    have k1:=(bl.cell (p:=⟨bf,off+k*4+1,none⟩) hbB).trans g1
    have k2:=(bl.cell (p:=⟨bf,off+k*4+2,none⟩) hbB).trans g2
    have k3:=(bl.cell (p:=⟨bf,off+k*4+3,none⟩) hbB).trans g3
    have lb:bf<wr.heap.size:=Nat.lt_of_lt_of_le hbB bl.size
    have hmem:m.funcs.getD k ⟨[],[],[],[]⟩∈m.funcs:=by rw[List.getD_eq_getElem?_getD,List.getElem?_eq_getElem hlt];exact List.getElem_mem hlt
    have fo:=isMd_fn HI.out hmem
    have fl:=isMd_low HI.out hmem
    have po:=isMd_put HI.out hmem
    have hjj:=isMd_jump HI.out hmem
    have HGK:Hid (Fl.Sound m (m.funcs.getD k ⟨[],[],[],[]⟩)->∀j,j<k+1->Fl.Sound m (m.funcs.getD j ⟨[],[],[],[]⟩)):=fun hs j hj=>by
     by_cases hjk:j<k
     ·exact HG.out j hjk
     ·rw[show j=k from by omega];exact hs
    have HFB:Hid (¬Fl.Sound m (m.funcs.getD k ⟨[],[],[],[]⟩)->FirstBad m k):=fun hs=>⟨hlt,hs,HG.out⟩
    generalize m.funcs.getD k ⟨[],[],[],[]⟩=f at *
    simp only at k0 k1 k2 k3
    clear g0 g1 g2 g3 hmem HG
    have hmr:MdR wr.drew wr.drew.heap.size _ _ m:=((HM.out.below bl).wide bl.size).below ((Below.refl _ _).drew)
    have hfr:FnR wr.drew wr.drew.heap.size _ f:=((hy.below bl).wide bl.size).below ((Below.refl _ _).drew)
    have HSND:=hid (rsound_any m f _ _ _ _ hmr hfr (isMd_mdok HI.out) fo fl po hjj.2 hjj.1)
    clear fo fl po hjj hmr hfr hy
    go_wp2_with fail
    go_region_held3 (fun w'=>w'.cell? ⟨w1.heap.size,0,none⟩=some (.slice a1 m.kinds.length c1)/\w'.cell? ⟨w1.heap.size,1,none⟩=some (.slice (some ⟨bf,off,none⟩) m.funcs.length cap)/\w'.cell? ⟨bf,off+k*4,none⟩=some (.slice x1 f.params.length y1)/\w'.cell? ⟨bf,off+k*4+1,none⟩=some (.slice x2 f.results.length y2)/\w'.cell? ⟨bf,off+k*4+2,none⟩=some (.slice x3 f.locals.length y3)/\w'.cell? ⟨bf,off+k*4+3,none⟩=some (.slice x4 f.code.length y4))
     (first|exact⟨d0,d1,k0,k1,k2,k3⟩|exact⟨(hb3.cell (p:=⟨w1.heap.size,0,none⟩) l0).trans d0,(hb3.cell (p:=⟨w1.heap.size,1,none⟩) l0).trans d1,(hb3.cell (p:=⟨bf,off+k*4,none⟩) lb).trans k0,(hb3.cell (p:=⟨bf,off+k*4+1,none⟩) lb).trans k1,(hb3.cell (p:=⟨bf,off+k*4+2,none⟩) lb).trans k2,(hb3.cell (p:=⟨bf,off+k*4+3,none⟩) lb).trans k3⟩)
     ((go_at_call 56;refine HSND.out.mono ?_;rintro e w3 ⟨r,rfl,hr,hb3⟩))
    have hbw:Below wr.heap.size wr w3:=((Below.refl _ _).drew).trans hb3
    have bl3:Below w1.heap.size w1 w3:=bl.trans (hbw.mono bl.size)
    have mb3:F2 w3 w1.heap.size 38 _ _:=(hbw.block _ mb.lt).trans mb
    clear hb3 hbw HSND k0 k1 k2 k3 d0 d1 mb bl
    cases r with
    | true=>
     have HG2:=hid (HGK.out (hr.1 rfl))
     clear hr HGK HFB
     go_wp2
     go_roundw
     case rel=>exact⟨k+1,hlt,by go_num,HG2.out,mb3,bl3⟩
     case measure=>simp[intOf];omega
    | false=>
     have hns:¬Fl.Sound m f:=fun hs=>by have:=hr.2 hs;simp at this
     have FIN:Hid (ChkOut w w3 b (.returned (.tuple #[.int .i64 3,.int .i64 k]))):=⟨3,k,rfl,HC0.out _ _ (.inl ⟨rfl,k,rfl,HFB.out hns⟩),HX.out _ bl3⟩
     clear hr HGK HFB hns mb3
     go_wp2
     go_ret2
     exact FIN.out
   ·have FIN:Hid (ChkOut w wr b (.returned (.tuple #[.int .i64 0,.int .i64 0]))):=⟨0,0,rfl,HC0.out _ _ (.inr ⟨rfl,rfl,fun j hj=>HG.out j (by omega)⟩),HX.out _ bl⟩
    go_wp2
    go_ret2
    exact FIN.out
 ·have FIN:Hid (ChkOut w (w1.alloc (.cells #[.slice a1 m.kinds.length c1,.slice ao m.funcs.length cap] 38)) b (.returned (.tuple #[.int .i64 ev,.int .i64 av]))):=⟨ev,av,rfl,HC.out _ _ (.inl ⟨hev,rfl,rfl⟩),hb2⟩
  clear hb2 mb0 hbA hb1 HC HIS
  go_wp2
  go_ret2
  exact FIN.out
theorem lcheck_any(b:ByteArray)(w:World)(hs:b.size<=maxLen):
  Calls Tryz.prog 12 #[.string b] w fun e w'=>e=.returned (.bool true)/\Below w.heap.size w w':=by
 go_enter Tryz.func12,Tryz.ntmps12
 go_wp2_with fail
 refine(fcheck_any b _ hs).mono ?_
 rintro e w1 ⟨e1,p1,rfl,hc1,hb1⟩
 go_wp2_with fail
 refine(rcheck_any b _ hs).mono ?_
 rintro e w2 ⟨e2,p2,rfl,hc2,hb2⟩
 obtain⟨rfl,rfl⟩:=hc1.one hc2
 have hb3:=hb1.trans (hb2.mono hb1.size)
 clear hc1 hc2 hb1 hb2
 go_wp2_with (go_at_call 21;refine(num_any _ _).mono ?_;rintro e w3 ⟨rfl,rfl⟩)
 go_ret
 exact⟨by simp,hb3⟩
end Go.Proofs.YtjamgmbdilkbcaaGreat
