import Derived.Test.YtjamgmbdilkbcaaGreatLotAll17
import Derived.Deep.RegionWith
set_option maxHeartbeats 4000000
set_option maxRecDepth 100000
namespace Go.Proofs.YtjamgmbdilkbcaaGreat
open Go.RowKit
theorem flat_take(l:List (Int × Int))(k:Nat)(hlt:k<l.length):Pu.flat (l.take (k+1))=Pu.flat (l.take k)++[(l.getD k (0,0)).1,(l.getD k (0,0)).2]:=by
 have e:l.getD k (0,0)=l[k]:=by simp[List.getD_eq_getElem?_getD,hlt]
 rw[e,List.take_succ_eq_append_getElem hlt]
 simp only[Pu.flat,List.flatMap_append,List.flatMap_cons,List.flatMap_nil,List.append_nil]
def iv(l:List Int):List Value:=l.map (Value.int .i64)
theorem iv_snoc(l:List Int)(x:Int):iv (l++[x])=iv l++[.int .i64 x]:=by simp[iv]
theorem ints_now{w w':World}{v:Value}{l:List Int}(h:IntsR w w.heap.size v l)(hb:Below w.heap.size w w'):IntsR w' w'.heap.size v l:=(h.below hb).wide hb.size
theorem keep_below{w wp w3:World}(hb:Below w.heap.size w wp)(h3:Below wp.heap.size wp w3):Below w.heap.size w w3:=hb.trans (h3.mono hb.size)
theorem k3_of{w w':World}{q:Nat}{t:TypeId}{x0 x1 x2 x3:Value}(h:F4 w q t x0 x1 x2 x3)(hb:Below w.heap.size w w'):w'.cell? ⟨q,0,none⟩=some x0/\w'.cell? ⟨q,1,none⟩=some x1/\w'.cell? ⟨q,2,none⟩=some x2/\Below w.heap.size w w':=
 ⟨(hb.cell (p:=⟨q,0,none⟩) h.lt).trans h.c0,(hb.cell (p:=⟨q,1,none⟩) h.lt).trans h.c1,(hb.cell (p:=⟨q,2,none⟩) h.lt).trans h.c2,hb⟩
theorem str_join(a b c:List UInt8)(x y:UInt8)(l:List UInt8){n:Nat}(hn:n=l.length+1):
  (ByteArray.mk a.toArray++ByteArray.mk b.toArray++ByteArray.mk c.toArray++ByteArray.mk #[x]++(ByteArray.mk (y::l).toArray).extract 1 n)=ByteArray.mk (a++(b++(c++(x::l)))).toArray:=by
 subst hn
 apply ByteArray.ext
 apply Array.ext'
 simp[ByteArray.data_append,ByteArray.data_extract]
def rfnStr(f:Pu.Fn):ByteArray:=if Pu.smallF f=true then⟨(Pu.wFn f).toArray⟩ else⟨#[]⟩
theorem rfnStr_no{f:Pu.Fn}(h:Pu.smallF f=false):rfnStr f=⟨#[]⟩:=by simp[rfnStr,h]
theorem rfnStr_yes{f:Pu.Fn}(h:Pu.smallF f=true):rfnStr f=⟨(Pu.wFn f).toArray⟩:=by simp[rfnStr,h]
theorem rfn_str{f:Pu.Fn}{Z T:ByteArray}(h:Pu.smallF f=true)(hZ:Z=⟨(Pu.wList f.params).toArray⟩++⟨(Pu.wList f.results).toArray⟩++⟨(Pu.wList f.locals).toArray⟩)(hT:T=⟨(Pu.wList (Pu.flat f.code)).toArray⟩):
  rfnStr f=Z++⟨#[Pu.byte f.code.length]⟩++T.extract 1 T.size:=by
 have hn:T.size=((Pu.flat f.code).map Pu.byte).length+1:=by rw[hT];simp[ByteArray.size,wList_len]
 have key:=str_join (Pu.wList f.params) (Pu.wList f.results) (Pu.wList f.locals) (Pu.byte f.code.length) (Pu.byte (Pu.flat f.code).length) ((Pu.flat f.code).map Pu.byte) hn
 have e:Pu.wList (Pu.flat f.code)=Pu.byte (Pu.flat f.code).length::(Pu.flat f.code).map Pu.byte:=rfl
 rw[rfnStr_yes h,Pu.wFn,Pu.wCode_flat,<-key,<-hZ,<-e,<-hT]
theorem rfn_any(f:Pu.Fn)(x:FV)(w:World)(h:FnR w w.heap.size x f)(hN:f.code.length<=1048576):
  Calls Tryz.prog 53 #[.agg #[x.p,x.r,x.l,x.c]] w fun e w'=>e=.returned (.tuple #[.string (rfnStr f),.bool (Pu.smallF f)])/\Below w.heap.size w w':=by
 obtain⟨i0,hi0,hz0,hz1,hz2⟩:=info_parts Tryz.info3
 obtain⟨x1,y1,x2,y2,x3,y3,x4,y4,rfl⟩:=h.shape
 have hb0:=(Below.refl w.heap.size w).alloc (Nat.le_refl _) (.cells #[.slice x1 f.params.length y1,.slice x2 f.results.length y2,.slice x3 f.locals.length y3,.slice x4 f.code.length y4] 62)
 have bx0:F4 (w.alloc (.cells #[.slice x1 f.params.length y1,.slice x2 f.results.length y2,.slice x3 f.locals.length y3,.slice x4 f.code.length y4] 62)) w.heap.size 62 (.slice x1 f.params.length y1) (.slice x2 f.results.length y2) (.slice x3 f.locals.length y3) (.slice x4 f.code.length y4):=heap_alloc_new w _
 have hc:=h.c
 obtain⟨ao,cap,b,off,hv,h1,h2⟩:=hc
 simp only[Value.slice.injEq,true_and]at hv
 obtain⟨rfl,rfl⟩:=hv
 have H1:Hid _:=h1
 have H2:Hid _:=h2
 have HF:Hid _:=h
 clear h1 h2 h
 simp only
 go_enter Tryz.func53,Tryz.ntmps53
 go_wp2
 go_loopw [4,5] (fun g i wr=>∃k:Nat,k<=f.code.length/\i=.int .i64 k/\wr.ownsRow (w.heap.size+1) 3 1 g (2*k) (iv (Pu.flat (f.code.take k)))/\Below w.heap.size w wr/\F4 wr w.heap.size 62 (.slice x1 f.params.length y1) (.slice x2 f.results.length y2) (.slice x3 f.locals.length y3) (.slice x4 f.code.length y4)) (fun _ i _=>f.code.length-(intOf i).toNat)
 case atStart=>exact⟨0,Nat.zero_le _,rfl,World.ownsRow_nil _ _ _ _,hb0,bx0⟩
 case round=>
  obtain⟨k,hk,rfl,ho,hb,bx⟩:=hrel
  clear hb0 bx0
  obtain⟨ag,cg,rfl⟩:=owns_shape ho
  have d3:=bx.c3
  have hz:=bx.lt
  by_cases hlt:k<f.code.length
  ·obtain⟨rfl,hbB⟩:=H1.out (by omega)
   have k0:=(hb.cell (p:=⟨b,off+k*2,none⟩) hbB).trans (H2.out k hlt).1
   have k1:=(hb.cell (p:=⟨b,off+k*2+1,none⟩) hbB).trans (H2.out k hlt).2
   have HT:Hid _:=flat_take f.code k hlt
   generalize f.code.getD k (0,0)=u at *
   obtain⟨u0,u1⟩:=u
   simp only at *
   have oa:=ho.alloc (.cells #[.int .i64 u0] 3)
   go_wp2_with (at_builtin;refine wpList_append_own _ rfl _ _ 35 rfl (w.heap.size+1) 3 i0 (.int .i64 0) 1 8 Tryz.underlying35 hi0 hz0 hz1 hz2 rfl (by decide) _ _ _ rfl oa ⟨wr.heap.size,0,none⟩ 1 1 [.int .i64 u0] rfl rfl (cell_one_new _ _ _) ?c2 ?c3 ?c4 ?c5 ?_)
   case c2=>first|rfl|(intro u hu;simp at hu;subst hu;rfl)
   case c3=>unfold maxLen;omega
   case c4=>omega
   case c5=>first|omega|(simp only[World.size_alloc];omega)
   intro v' w1 hown1 hgrow _
   have hne:∀j,(Value.slice ag (2*k) cg).ownBlock=some j->w.heap.size+1<=j:=fun j hj=>(ho.lt j hj).1
   have hb1:Below w.heap.size w w1:=(hb.alloc (by omega) _).grown hgrow (by simp only[World.size_alloc];omega) (fun k hk=>by have:=hne k hk;omega)
   have bx1:=(bx.kept (World.grownBy_alloc wr (.cells #[.int .i64 u0] 3) none) (by simp)).kept hgrow (fun e=>by have:=hne _ e.symm;omega)
   have k01:=(hb1.cell (p:=⟨b,off+k*2,none⟩) hbB).trans ((hb.cell (p:=⟨b,off+k*2,none⟩) hbB).symm.trans k0)
   have k11:=(hb1.cell (p:=⟨b,off+k*2+1,none⟩) hbB).trans ((hb.cell (p:=⟨b,off+k*2+1,none⟩) hbB).symm.trans k1)
   clear hgrow ho hb bx d3 k0 k1 hne oa hz
   obtain⟨ag1,cg1,rfl⟩:=owns_shape hown1
   have d3:=bx1.c3
   have hz:=bx1.lt
   have oa:=hown1.alloc (.cells #[.int .i64 u1] 3)
   go_wp2_with (at_builtin;refine wpList_append_own _ rfl _ _ 35 rfl (w.heap.size+1) 3 i0 (.int .i64 0) 1 8 Tryz.underlying35 hi0 hz0 hz1 hz2 rfl (by decide) _ _ _ rfl oa ⟨w1.heap.size,0,none⟩ 1 1 [.int .i64 u1] rfl rfl (cell_one_new _ _ _) ?e2 ?e3 ?e4 ?e5 ?_)
   case e2=>first|rfl|(intro u hu;simp at hu;subst hu;rfl)
   case e3=>unfold maxLen;omega
   case e4=>omega
   case e5=>first|omega|(simp only[World.size_alloc];omega)
   intro v' w2 hown2 hgrow _
   have hne:∀j,(Value.slice ag1 (2*k+1) cg1).ownBlock=some j->w.heap.size+1<=j:=fun j hj=>(hown1.lt j hj).1
   have hb2:Below w.heap.size w w2:=(hb1.alloc (by omega) _).grown hgrow (by simp only[World.size_alloc];omega) (fun k hk=>by have:=hne k hk;omega)
   have bx2:=(bx1.kept (World.grownBy_alloc w1 (.cells #[.int .i64 u1] 3) none) (by simp)).kept hgrow (fun e=>by have:=hne _ e.symm;omega)
   have o3:w2.ownsRow (w.heap.size+1) 3 1 v' (2*(k+1)) (iv (Pu.flat (f.code.take (k+1)))):=by
    rw[HT.out,show [u0,u1]=[u0]++[u1] from rfl,<-List.append_assoc,iv_snoc,iv_snoc,show 2*(k+1)=2*k+1+1 from by omega,List.append_assoc]
    exact hown2
   clear hgrow hb1 bx1 d3 k01 k11 hne oa hz hown1 hown2
   obtain⟨ag2,cg2,rfl⟩:=owns_shape o3
   go_wp2
   go_roundw
   case rel=>exact⟨k+1,hlt,by go_num,o3,hb2,bx2⟩
   case measure=>simp[intOf];omega
  ·have hk2:k=f.code.length:=by omega
   subst hk2
   rw[List.take_of_length_le (Nat.le_refl _)]at ho
   have e0:=bx.c0
   have e1:=bx.c1
   have e2:=bx.c2
   have hfr:=(HF.out.below hb)
   have hci:IntsR wr wr.heap.size (.slice ag (2*f.code.length) cg) (Pu.flat f.code):=owns_ints (by rw[Pu.flat_len];exact ho)
   clear ho
   go_wp2_with fail
   refine(small_any f.params _ _ _ hfr.p hfr.np).mono ?_
   rintro e w1 ⟨rfl,hw1⟩
   have hw1:=hw1.symm
   subst hw1
   go_wp2_with fail
   refine(small_any f.results _ _ _ hfr.r hfr.nr).mono ?_
   rintro e w1 ⟨rfl,hw1⟩
   have hw1:=hw1.symm
   subst hw1
   go_wp2_with fail
   refine(small_any f.locals _ _ _ hfr.l hfr.nl).mono ?_
   rintro e w1 ⟨rfl,hw1⟩
   have hw1:=hw1.symm
   subst hw1
   by_cases hsm:Pu.smallL f.params=true/\Pu.smallL f.results=true/\Pu.smallL f.locals=true/\f.code.length<=255
   ·obtain⟨s1,s2,s3,s4⟩:=hsm
    rw[s1,s2,s3]
    have HS:Hid (Pu.smallF f=(Pu.flat f.code).all Pu.isB):=by
     show _=_
     rw[Pu.smallF,s1,s2,s3,show decide (f.code.length<=255)=true from by simpa using s4]
     simp
    have hfl:(Pu.flat f.code).length=2*f.code.length:=Pu.flat_len _
    have hci2:=hci
    obtain⟨ac,cpc,b2,off2,hv,h1,h2⟩:=hci
    rw[hfl]at hv h1 h2
    simp only[Value.slice.injEq,true_and]at hv
    obtain⟨rfl,rfl⟩:=hv
    have HC:Hid _:=hci2
    have G1:Hid _:=h1
    have G2:Hid _:=h2
    have HFL:Hid _:=hfl
    clear hci2 h1 h2 hfl
    go_wp2
    go_loop [9] (fun i=>∃k:Nat,k<=2*f.code.length/\i=.int .i64 k/\((Pu.flat f.code).take k).all Pu.isB=true) (fun i=>2*f.code.length-(intOf i).toNat)
    case atStart=>exact⟨0,Nat.zero_le _,rfl,by simp⟩
    case round=>
     obtain⟨k,hk,rfl,ha⟩:=hrel
     by_cases hlt2:k<2*f.code.length
     ·obtain⟨rfl,hbB⟩:=G1.out (by omega)
      have hc:=G2.out k hlt2
      have HT:Hid _:=take_all_snoc (Pu.flat f.code) Pu.isB k 0 (by rw[HFL.out];exact hlt2)
      have HF2:Hid _:=all_false_of (Pu.flat f.code) Pu.isB k 0 (by rw[HFL.out];exact hlt2)
      have HA:Hid _:=ha
      clear ha
      generalize (Pu.flat f.code).getD k 0=x at *
      by_cases hx0:x<0
      ·have HE:Hid (Pu.smallF f=false):=by show _=_;rw[HS.out,HF2.out (by simp[Pu.isB];omega)]
       go_wp2
       go_ret2
       rw[rfnStr_no HE.out,HE.out]
       exact⟨rfl,hb⟩
      ·by_cases hx1:255<x
       ·have HE:Hid (Pu.smallF f=false):=by show _=_;rw[HS.out,HF2.out (by simp[Pu.isB];omega)]
        go_wp2
        go_ret2
        rw[rfnStr_no HE.out,HE.out]
        exact⟨rfl,hb⟩
       ·go_wp2
        go_round
        case rel=>exact⟨k+1,hlt2,by go_num,by rw[HT.out,HA.out];simp[Pu.isB];omega⟩
        case measure=>simp[intOf];omega
     ·have HE:Hid (Pu.smallF f=true):=by
       show _=_
       rw[HS.out,<-ha,List.take_of_length_le (by rw[HFL.out];omega)]
      clear ha
      have hfw:FnR wr wr.heap.size ⟨.slice x1 f.params.length y1,.slice x2 f.results.length y2,.slice x3 f.locals.length y3,.slice x4 f.code.length y4⟩ f:=hfr.wide hb.size
      have n1:f.params.length<=1000000:=by simp only[Pu.smallL,Bool.and_eq_true,decide_eq_true_eq]at s1;omega
      have n2:f.results.length<=1000000:=by simp only[Pu.smallL,Bool.and_eq_true,decide_eq_true_eq]at s2;omega
      have n3:f.locals.length<=1000000:=by simp only[Pu.smallL,Bool.and_eq_true,decide_eq_true_eq]at s3;omega
      have HW:Hid _:=hfw
      have HK:Hid _:=fun w' (h:Below wr.heap.size wr w')=>k3_of bx h
      have HB0:Hid (Below wr.heap.size wr wr.drew):=(Below.refl _ _).drew
      have t1:(9223372036854775807<(Pu.wList f.params).length+(Pu.wList f.results).length)=False:=by rw[wList_len,wList_len];simp;omega
      have t2:(9223372036854775807<(Pu.wList f.params).length+(Pu.wList f.results).length+(Pu.wList f.locals).length)=False:=by rw[wList_len,wList_len,wList_len];simp;omega
      clear hfr hfw s1 s2 s3 HS
      go_wp2_with fail
      go_region_held3 (fun w'=>w'.cell? ⟨w.heap.size,0,none⟩=some (.slice x1 f.params.length y1)/\w'.cell? ⟨w.heap.size,1,none⟩=some (.slice x2 f.results.length y2)/\w'.cell? ⟨w.heap.size,2,none⟩=some (.slice x3 f.locals.length y3)/\Below wr.heap.size wr w')
       (first|exact HK.out _ HB0.out|(go_split_ands;exact HK.out _ (keep_below (by assumption) hb3)))
       (first|(go_at_call 52;with_reducible show Calls _ _ #[Value.slice x1 f.params.length y1] _ _;go_split_ands;refine(put_any f.params (.slice x1 f.params.length y1) _ (ints_now HW.out.p (by assumption)) n1).mono ?_;rintro e w3 ⟨rfl,hb3⟩)|(go_at_call 52;with_reducible show Calls _ _ #[Value.slice x2 f.results.length y2] _ _;go_split_ands;refine(put_any f.results (.slice x2 f.results.length y2) _ (ints_now HW.out.r (by assumption)) n2).mono ?_;rintro e w3 ⟨rfl,hb3⟩)|(go_at_call 52;with_reducible show Calls _ _ #[Value.slice x3 f.locals.length y3] _ _;go_split_ands;refine(put_any f.locals (.slice x3 f.locals.length y3) _ (ints_now HW.out.l (by assumption)) n3).mono ?_;rintro e w3 ⟨rfl,hb3⟩))
      have hb5:Below wr.heap.size wr w3:=by go_split_ands;assumption
      have bx5:F4 w3 w.heap.size 62 (.slice x1 f.params.length y1) (.slice x2 f.results.length y2) (.slice x3 f.locals.length y3) (.slice x4 f.code.length y4):=(hb5.block w.heap.size hz).trans bx
      clear hb3
      go_wp2_with fail
      refine(put_any (Pu.flat f.code) _ w3 (ints_now HC.out hb5) (by rw[HFL.out];omega)).mono ?_
      rintro e w6 ⟨rfl,hb6⟩
      have bx6:F4 w6 w.heap.size 62 (.slice x1 f.params.length y1) (.slice x2 f.results.length y2) (.slice x3 f.locals.length y3) (.slice x4 f.code.length y4):=(hb6.block w.heap.size bx5.lt).trans bx5
      have hb7:=keep_below hb5 hb6
      clear hb5 hb6 bx5
      have d6:=bx6.c3
      have hs6:=bx6.lt
      have hcv:(convert 126 9 (.slice (some ⟨w6.heap.size,0,none⟩) 1 1)).run Tryz.prog (w6.alloc (.cells #[.int .u8 (IntKind.u8.wrap (f.code.length:Int))] 5)).drew=.ok (.string ⟨#[Pu.byte f.code.length]⟩) (w6.alloc (.cells #[.int .u8 (IntKind.u8.wrap (f.code.length:Int))] 5)).drew:=by
       have h1:(w6.alloc (.cells #[.int .u8 (IntKind.u8.wrap (f.code.length:Int))] 5)).drew.ownsRow w6.heap.size 5 1 (.slice (some ⟨w6.heap.size,0,none⟩) 1 1) 1 [.int .u8 (IntKind.u8.wrap (f.code.length:Int))]:=owns_new w6 _ 5
       have h2:IntKind.u8.wrap (f.code.length:Int)=((Pu.byte f.code.length).toNat:Int):=by rw[byte_val];simp[IntKind.wrap,IntKind.bits,IntKind.signed]
       rw[h2]at h1 ⊢
       exact wr_string (l:=[Pu.byte f.code.length]) h1
      have hcv2:(convert 126 9 (.slice (some ⟨w6.heap.size,0,none⟩) 1 1)).run Tryz.prog (w6.alloc (.cells #[.int .u8 (f.code.length:Int)] 5)).drew=.ok (.string ⟨#[Pu.byte f.code.length]⟩) (w6.alloc (.cells #[.int .u8 (f.code.length:Int)] 5)).drew:=by
       have h2:IntKind.u8.wrap (f.code.length:Int)=(f.code.length:Int):=by simp[IntKind.wrap,IntKind.bits,IntKind.signed];omega
       rw[h2]at hcv
       exact hcv
      have hT:(Pu.wList (Pu.flat f.code)).length=2*f.code.length+1:=by rw[wList_len,HFL.out]
      obtain⟨T,hTe⟩:∃T:ByteArray,T=⟨(Pu.wList (Pu.flat f.code)).toArray⟩:=⟨_,rfl⟩
      obtain⟨Z,hZe⟩:∃Z:ByteArray,Z=⟨(Pu.wList f.params).toArray⟩++⟨(Pu.wList f.results).toArray⟩++⟨(Pu.wList f.locals).toArray⟩:=⟨_,rfl⟩
      have hTs:T.size=2*f.code.length+1:=by rw[hTe];exact hT
      have i1:(1:Int)<=(T.size:Int):=by omega
      have hZs:Z.size<=3000003:=by rw[hZe];simp[ByteArray.size_mk',wList_len];omega
      rw[<-hTe,<-hZe]
      have HTS:Hid _:=hTs
      have tz:T.size<=600:=by omega
      have t3:(9223372036854775807<Z.size+1)=False:=by simp;omega
      have t4:(9223372036854775807<Z.size+1+(T.size-1))=False:=by simp;omega
      clear hTs
      have HTE:Hid _:=hTe
      have HZE:Hid _:=hZe
      clear hTe hZe hT t1 t2
      go_wp2_with fail
      go_region
      all_goals go_wp2
      clear hcv hcv2 d6 t3 t4 i1 tz hZs
      have hstr:rfnStr f=Z++⟨#[Pu.byte f.code.length]⟩++T.extract 1 T.size:=rfn_str HE.out HZE.out HTE.out
      have HSTR:Hid _:=hstr
      have hbf:Below w.heap.size w (w6.alloc (.cells #[.int .u8 (f.code.length:Int)] 5)).drew:=((hb.trans (hb7.mono hb.size)).alloc (Nat.le_trans hb.size hb7.size) _).drew
      clear hstr
      go_ret2
      rw[HSTR.out,HE.out]
      exact⟨rfl,hbf⟩
   ·have HS:Hid (Pu.smallF f=false):=by
     show _=_
     cases hx:Pu.smallF f with
     | false=>rfl
     | true=>
      simp only[Pu.smallF,Bool.and_eq_true,decide_eq_true_eq]at hx
      exact absurd ⟨hx.1.1.1.1,hx.1.1.1.2,hx.1.1.2,hx.1.2⟩ hsm
    clear hci hfr
    have HSM:Hid _:=hsm
    clear hsm
    cases s1:Pu.smallL f.params with
    | false=>
     clear s1
     go_wp2
     go_ret2
     rw[rfnStr_no HS.out,HS.out]
     exact⟨rfl,hb⟩
    | true=>
     cases s2:Pu.smallL f.results with
     | false=>
      clear s1 s2
      go_wp2
      go_ret2
      rw[rfnStr_no HS.out,HS.out]
      exact⟨rfl,hb⟩
     | true=>
      cases s3:Pu.smallL f.locals with
      | false=>
       clear s1 s2 s3
       go_wp2
       go_ret2
       rw[rfnStr_no HS.out,HS.out]
       exact⟨rfl,hb⟩
      | true=>
       have hl4:255<f.code.length:=by
        apply Nat.lt_of_not_le
        intro hl
        exact HSM.out ⟨s1,s2,s3,hl⟩
       clear s1 s2 s3
       go_wp2
       go_ret2
       rw[rfnStr_no HS.out,HS.out]
       exact⟨rfl,hb⟩
theorem whole_any(p:Nat)(b:ByteArray)(w:World)(h:Ct w p b 0 (bd (0,false)))(hs:b.size<=maxLen):
  Calls Tryz.prog 54 #[.pointer (some ⟨p,0,none⟩)] w fun e w'=>
   e=.returned (.tuple #[])/\Ct w' p b (Pu.atEnd b (Pu.module b).2).1 (bd (Pu.atEnd b (Pu.module b).2))/\w.grownBy w' (some p):=by
 go_enter Tryz.func54,Tryz.ntmps54
 go_wp2_with fail
 refine(next_any _ b (0,false) 67 67 _ h hs).mono ?_
 rintro e w1 ⟨rfl,ct1,g1,_⟩
 clear h
 generalize hq:Pu.number b 67 67 (0,false)=q at *
 have H1:Hid _:=hq
 clear hq
 obtain⟨c1,s1⟩:=q
 simp only at *
 go_wp2_with fail
 refine(next_any _ b _ 70 70 _ ct1 hs).mono ?_
 rintro e w2 ⟨rfl,ct2,hg,_⟩
 have g2:=grown_trans g1 hg
 clear ct1 hg g1
 generalize hq:Pu.number b 70 70 s1=q at *
 have H2:Hid _:=hq
 clear hq
 obtain⟨c2,s2⟩:=q
 simp only at *
 go_wp2_with fail
 refine(some_any _ b s2 6 3 _ ct2 hs).mono ?_
 rintro e w4 ⟨v,l,rfl,hk4,hl4,ct4,hg,E1⟩
 have g4:=grown_trans g2 hg
 clear ct2 hg g2
 obtain⟨ao,cap,rfl⟩:=owns_shape hk4
 clear hk4
 generalize hq:Pu.list b 6 3 s2=q at *
 have H3:Hid _:=hq
 have HE:Hid _:=E1
 clear hq E1
 obtain⟨ks,s4⟩:=q
 simp only at *
 go_wp2_with fail
 refine(next_any _ b s4 1 8 _ ct4 hs).mono ?_
 rintro e w6 ⟨rfl,ct6,hg,_⟩
 have g6:=grown_trans g4 hg
 clear ct4 hg g4
 have hn0:=Pu.number_rng b 1 8 s4
 have HZ:Hid ((Pu.number b 1 8 s4).2.2=true->(Pu.number b 1 8 s4).1=0):=number_zero
 have HP:Hid ((Pu.number b 1 8 s4).2.2=false->s4.2=false):=number_pre
 generalize hq:Pu.number b 1 8 s4=q at *
 have H4:Hid _:=hq
 clear hq
 obtain⟨nn,s5⟩:=q
 simp only at *
 obtain⟨n,rfl⟩:=Int.eq_ofNat_of_zero_le hn0.1
 have hn:n<=255:=by omega
 clear hn0
 have HMo:Hid (Pu.module b=(⟨ks,(Pu.fns b ks.length n s5 n).1⟩,(Pu.fns b ks.length n s5 n).2)):=by
  show _=_
  simp only[Pu.module,H1.out,H2.out,H3.out,H4.out,Int.toNat_natCast]
 have HL:Hid (s5.2=false->l=ks):=fun h5=>HE.out (HP.out h5)
 clear H1 H2 H3 H4 HE HP
 go_wp2
 go_loopw [4] (fun i wr=>∃k:Nat,k<=n/\i=.int .i64 k/\Ct wr p b (Pu.fns b ks.length n s5 k).2.1 (bd (Pu.fns b ks.length n s5 k).2)/\w.grownBy wr (some p)) (fun i _=>n-(intOf i).toNat)
 case atStart=>exact⟨0,Nat.zero_le _,rfl,ct6,g6⟩
 case round=>
  obtain⟨k,hk,rfl,ct,g⟩:=hrel
  clear ct6 g6
  have e2:=ct.c2
  by_cases hlt:k<n/\(Pu.fns b ks.length n s5 k).2.2=false
  ·obtain⟨hkn,hfine⟩:=hlt
   have hbn:=bd_neg.2 hfine
   have h5:s5.2=false:=by
    cases hx:s5.2 with
    | false=>rfl
    | true=>have:=HZ.out hx;omega
   have hlk:=HL.out h5
   subst hlk
   clear h5
   go_wp2_with fail
   refine(rfunc_any _ b _ l.length n wr ct hs (by omega) (by omega)).mono ?_
   rintro e w7 ⟨x,f,rfl,hx,ct7,hg,E7⟩
   have g7:=grown_trans g hg
   have HS:Hid (Pu.fns b l.length n s5 (k+1)=((Pu.fns b l.length n s5 k).1++[(Pu.func b l.length n (Pu.fns b l.length n s5 k).2).1],(Pu.func b l.length n (Pu.fns b l.length n s5 k).2).2)):=rfl
   clear ct hx hg E7 e2 hfine hbn g
   generalize Pu.func b l.length n (Pu.fns b l.length n s5 k).2=q at *
   obtain⟨pf,s7⟩:=q
   simp only at *
   go_wp2
   go_roundw
   case rel=>exact⟨k+1,hkn,by go_num,by rw[HS.out];exact ct7,g7⟩
   case measure=>simp[intOf];omega
  ·have hst:(Pu.fns b ks.length n s5 n).2=(Pu.fns b ks.length n s5 k).2:=by
    by_cases e:k=n
    ·subst e;rfl
    ·have hb:(Pu.fns b ks.length n s5 k).2.2=true:=by
      cases hx:(Pu.fns b ks.length n s5 k).2.2 with
      | true=>rfl
      | false=>exact absurd ⟨by omega,hx⟩ hlt
     exact fns_stuck b ks.length n s5 k hb n (by omega)
   have HM:Hid ((Pu.module b).2=(Pu.fns b ks.length n s5 k).2):=by
    show _=_
    rw[HMo.out,<-hst]
   have HLT:Hid _:=hlt
   clear hlt hst
   by_cases hkn:k<n
   ·have hbx:¬bd (Pu.fns b ks.length n s5 k).2<0:=fun h0=>HLT.out ⟨hkn,bd_neg.1 h0⟩
    clear HLT
    generalize Pu.fns b ks.length n s5 k=q at *
    obtain⟨pf,s7⟩:=q
    simp only at *
    go_wp2_with fail
    refine(rend_any _ b _ _ ct).mono ?_
    rintro e w10 ⟨rfl,ct10,hg⟩
    have g10:=grown_trans g hg
    clear hg g ct e2 hbx
    have fin:Ct w10 p b (Pu.atEnd b (Pu.module b).2).1 (bd (Pu.atEnd b (Pu.module b).2)):=by rw[HM.out];exact ct10
    have FIN:Hid _:=fin
    clear fin ct10
    go_wp2
    go_end0
    exact⟨rfl,FIN.out,g10⟩
   ·clear HLT
    generalize Pu.fns b ks.length n s5 k=q at *
    obtain⟨pf,s7⟩:=q
    simp only at *
    go_wp2_with fail
    refine(rend_any _ b _ _ ct).mono ?_
    rintro e w10 ⟨rfl,ct10,hg⟩
    have g10:=grown_trans g hg
    clear hg g ct e2
    have fin:Ct w10 p b (Pu.atEnd b (Pu.module b).2).1 (bd (Pu.atEnd b (Pu.module b).2)):=by rw[HM.out];exact ct10
    have FIN:Hid _:=fin
    clear fin ct10
    go_wp2
    go_end0
    exact⟨rfl,FIN.out,g10⟩
theorem conv_one(c:UInt8)(W:World)(g:Nat)(h:W.cell? ⟨g,0,none⟩=some (.int .u8 (c.toNat:Int))):(convert 126 9 (.slice (some ⟨g,0,none⟩) 1 1)).run Tryz.prog W=.ok (.string ⟨#[c]⟩) W:=by
 refine run_convert_bytes_back W 126 9 5 ⟨g,0,none⟩ 1 [c] Tryz.underlying126 Tryz.underlying5 Tryz.underlying9 (fun j hj=>?_)
 have:j=0:=by simpa using hj
 subst this
 simpa[Addr.add]using h
def CutP(R:Act->World->Prop):Exit->Act->World->Prop
 | .normal,a,w=>R a w
 | _,_,_=>False
theorem region_cut{P:Program}{c:Code}{Q:Exit->Act->World->Prop}{a:Act}{w:World}(R:Act->World->Prop)(h1:c.wp P (CutP R) a w)(h2:∀a' w',R a' w'->Q .normal a' w'):c.wp P Q a w:=
 Code.wp_mono (fun e a' w' h=>by cases e<;>first|exact h2 a' w' h|exact(h:False).elim) h1
theorem smallF_len{f:Pu.Fn}(h:Pu.smallF f=true):(Pu.wFn f).length<=1300:=by
 simp only[Pu.smallF,Pu.smallL,Bool.and_eq_true,decide_eq_true_eq]at h
 rw[wFn_len]
 omega
theorem wFns_len_gen(l:List Pu.Fn)(h:∀f∈l,(Pu.wFn f).length<=1300):(Pu.wFns l).length<=l.length*1300:=by
 induction l with
 | nil=>simp[Pu.wFns]
 | cons a l ih=>
  have h1:=h a (by simp)
  have h2:=ih (fun f hf=>h f (by simp[hf]))
  simp[Pu.wFns]at h2 ⊢
  omega
def wPart(m:Pu.Md)(k:Nat):List UInt8:=67::70::(Pu.wList m.kinds++(Pu.byte m.funcs.length::Pu.wFns (m.funcs.take k)))
theorem wPart_all(m:Pu.Md):wPart m m.funcs.length=Pu.wMd m:=by unfold wPart;rw[List.take_of_length_le (Nat.le_refl _)];rfl
theorem wPart_zero(m:Pu.Md):(⟨#[67,70]⟩++⟨(Pu.wList m.kinds).toArray⟩++⟨#[Pu.byte m.funcs.length]⟩:ByteArray)=⟨(wPart m 0).toArray⟩:=by
 apply ByteArray.ext
 apply Array.ext'
 simp[ByteArray.data_append,wPart,Pu.wFns]
theorem wPart_succ(m:Pu.Md)(k:Nat)(h:k<m.funcs.length):(⟨(wPart m k).toArray⟩++⟨(Pu.wFn (m.funcs.getD k ⟨[],[],[],[]⟩)).toArray⟩:ByteArray)=⟨(wPart m (k+1)).toArray⟩:=by
 rw[Go.ByteArray.mk_append_mk]
 unfold wPart
 rw[wFns_take m.funcs k h ⟨[],[],[],[]⟩]
 simp
theorem wPart_len(m:Pu.Md)(k:Nat)(h:(m.funcs.take k).all Pu.smallF=true)(hk:m.kinds.length<=1000000)(hn:m.funcs.length<=255):(wPart m k).length<=2000000:=by
 have h1:=wFns_len_gen (m.funcs.take k) (fun f hf=>smallF_len (List.all_eq_true.1 h f hf))
 rw[List.length_take]at h1
 unfold wPart
 simp only[List.length_cons,List.length_append,wList_len]
 omega
theorem drew_base{w w':World}(h:Below w.drew.heap.size w.drew w'):Below w.heap.size w w':=⟨h.os,h.tape,h.output,h.size,h.block⟩
theorem rencode_any(m:Pu.Md)(kv vv:Value)(w:World)(hm:MdR w w.heap.size kv vv m)(hN:∀f∈m.funcs,f.code.length<=1048576):
  Calls Tryz.prog 28 #[.agg #[kv,vv]] w fun e w'=>e=.returned (.tuple #[.string ⟨(Pu.renc m).1.toArray⟩,.int .i64 (Pu.renc m).2])/\Below w.heap.size w w':=by
 obtain⟨a1,c1,rfl⟩:=hm.k.shape
 obtain⟨a2,c2,rfl⟩:=hm.v.shape
 have hk0:F2 (w.alloc (.cells #[.slice a1 m.kinds.length c1,.slice a2 m.funcs.length c2] 38)) w.heap.size 38 (.slice a1 m.kinds.length c1) (.slice a2 m.funcs.length c2):=heap_alloc_new w _
 have hb0:=(Below.refl w.heap.size w).alloc (Nat.le_refl _) (.cells #[.slice a1 m.kinds.length c1,.slice a2 m.funcs.length c2] 38)
 have hm0:=(hm.below hb0).wide (B':=(w.alloc (.cells #[.slice a1 m.kinds.length c1,.slice a2 m.funcs.length c2] 38)).heap.size) (by simp)
 clear hm
 have hnf:=hm0.nf
 unfold maxLen at hnf
 go_enter Tryz.func28,Tryz.ntmps28
 go_wp2_with fail
 refine(small_any m.kinds _ _ _ hm0.k hm0.nk).mono ?_
 rintro e w1 ⟨rfl,hw1⟩
 generalize hW0:(w.alloc (.cells #[.slice a1 m.kinds.length c1,.slice a2 m.funcs.length c2] 38))=W0 at *
 have hw1:=hw1.symm
 subst hw1
 have HW0:Hid _:=hW0
 clear hW0
 have d1:=hk0.c1
 by_cases hsm:Pu.smallL m.kinds=true/\m.funcs.length<=255
 ·obtain⟨s1,s2⟩:=hsm
  rw[s1]
  have d0:=hk0.c0
  have hz:=hk0.lt
  have n1:m.kinds.length<=1000000:=by simp only[Pu.smallL,Bool.and_eq_true,decide_eq_true_eq]at s1;omega
  have t1:(9223372036854775807<2+(Pu.wList m.kinds).length)=False:=by rw[wList_len];simp;omega
  have t2:(9223372036854775807<2+(Pu.wList m.kinds).length+1)=False:=by rw[wList_len];simp;omega
  obtain⟨c,hc⟩:∃c,c=Pu.byte m.funcs.length:=⟨_,rfl⟩
  have hcv:∀(W:World) (g:Nat),W.cell? ⟨g,0,none⟩=some (.int .u8 (m.funcs.length:Int))->(convert 126 9 (.slice (some ⟨g,0,none⟩) 1 1)).run Tryz.prog W=.ok (.string ⟨#[c]⟩) W:=fun W g h=>conv_one c W g (by rw[h,hc,byte_val];congr 2;omega)
  have hwrap:IntKind.u8.wrap (m.funcs.length:Int)=(m.funcs.length:Int):=by simp[IntKind.wrap,IntKind.bits,IntKind.signed];omega
  have HC:Hid _:=hc
  have hmw:IntsR W0 W0.heap.size (.slice a1 m.kinds.length c1) m.kinds:=hm0.k
  have bA:=(Below.refl W0.heap.size W0).alloc (Nat.le_refl _) (.cells #[.int .u8 (m.funcs.length:Int)] 5)
  have HW:Hid (IntsR W0.drew W0.drew.heap.size (.slice a1 m.kinds.length c1) m.kinds):=hmw.heap rfl
  have HA:Hid (IntsR (W0.alloc (.cells #[.int .u8 (m.funcs.length:Int)] 5)).drew (W0.alloc (.cells #[.int .u8 (m.funcs.length:Int)] 5)).drew.heap.size (.slice a1 m.kinds.length c1) m.kinds):=(ints_now hmw bA).heap rfl
  have d1d:W0.drew.cell? ⟨w.heap.size,1,none⟩=some (.slice a2 m.funcs.length c2):=d1
  have d1a:(W0.alloc (.cells #[.int .u8 (m.funcs.length:Int)] 5)).drew.cell? ⟨w.heap.size,1,none⟩=some (.slice a2 m.funcs.length c2):=(bA.cell (p:=⟨w.heap.size,1,none⟩) hz).trans d1
  have dn:(W0.alloc (.cells #[.int .u8 (m.funcs.length:Int)] 5)).drew.cell? ⟨W0.heap.size,0,none⟩=some (.int .u8 (m.funcs.length:Int)):=by
   have:=heap_alloc_new W0 (.cells #[.int .u8 (m.funcs.length:Int)] 5)
   show(W0.alloc (.cells #[.int .u8 (m.funcs.length:Int)] 5)).cell? _=_
   unfold World.cell?
   rw[this]
   rfl
  have hzd:w.heap.size<W0.drew.heap.size:=hz
  have hza:w.heap.size<(W0.alloc (.cells #[.int .u8 (m.funcs.length:Int)] 5)).drew.heap.size:=by show w.heap.size<(W0.alloc (.cells #[.int .u8 (m.funcs.length:Int)] 5)).heap.size;simp;omega
  have hzn:W0.heap.size<(W0.alloc (.cells #[.int .u8 (m.funcs.length:Int)] 5)).drew.heap.size:=by show W0.heap.size<(W0.alloc (.cells #[.int .u8 (m.funcs.length:Int)] 5)).heap.size;simp
  have BAD:Hid (Below W0.heap.size W0 (W0.alloc (.cells #[.int .u8 (m.funcs.length:Int)] 5)).drew):=bA.drew
  clear bA
  have HM0:Hid _:=hm0
  have HN:Hid _:=hN
  have HS1:Hid _:=s1
  clear hmw hc s1 hm0 hN
  go_wp2_with fail
  refine region_cut (fun a' w'=>Below W0.heap.size W0 w'/\∃u21 u22 u23 u24 u25 u26 u27 u28 u29 u30 u31:Value,a'=⟨#[.agg #[.slice a1 m.kinds.length c1,.slice a2 m.funcs.length c2],.pointer (some ⟨w.heap.size,0,none⟩),.string ⟨#[]⟩,.int .i64 0,.bool true,.string (⟨#[67,70]⟩++⟨(Pu.wList m.kinds).toArray⟩++⟨#[c]⟩),undef,undef,undef,undef,.pointer (some ⟨w.heap.size,0,none⟩),.slice a1 m.kinds.length c1,.bool true,.bool true,.bool false,.bool false,.pointer (some ⟨w.heap.size,1,none⟩),.slice a2 m.funcs.length c2,.int .i64 (m.funcs.length:Int),.bool (decide (255<(m.funcs.length:Int))),.bool (decide (255<(m.funcs.length:Int))),u21,u22,u23,u24,u25,u26,u27,u28,u29,u30,u31,undef,undef,undef,undef,undef,undef,undef,undef,undef,undef,undef,undef,undef,undef,undef,undef,undef,undef,undef,undef,undef,undef,undef,undef,undef,undef,undef,undef,undef,undef,undef,undef,undef,undef,undef],[]⟩) ?reg ?rest
  case reg=>
   go_region_with (go_at_call 52;(refine(put_any m.kinds (.slice a1 m.kinds.length c1) _ ?_ n1).mono ?_;(first|with_reducible exact HW.out|with_reducible exact HA.out);rintro e w3 ⟨rfl,hb3⟩;have e1:w3.cell? ⟨w.heap.size,1,none⟩=some (.slice a2 m.funcs.length c2):=(hb3.cell (p:=⟨w.heap.size,1,none⟩) (by first|exact hzd|exact hza)).trans (by first|exact d1d|exact d1a);try (have hq:w3.cell? ⟨W0.heap.size,0,none⟩=some (.int .u8 (m.funcs.length:Int)):=(hb3.cell (p:=⟨W0.heap.size,0,none⟩) (by first|exact hzn)).trans dn)))
   all_goals show _/\_
   all_goals simp only[Act.put,List.setIfInBounds_toArray]
   all_goals refine⟨?_,_,_,_,_,_,_,_,_,_,_,_,rfl⟩
   all_goals first|exact drew_base hb3|exact keep_below BAD.out hb3|exact(drew_base hb3).alloc (drew_base hb3).size _
  case rest=>
   rintro a' w' ⟨hb1,u21,u22,u23,u24,u25,u26,u27,u28,u29,u30,u31,rfl⟩
   clear hcv hwrap t1 t2 d1d d1a dn hzd hza hzn HA BAD HW d0 d1
   obtain⟨s0,hs0⟩:∃s0:ByteArray,s0=⟨#[67,70]⟩++⟨(Pu.wList m.kinds).toArray⟩++⟨#[c]⟩:=⟨_,rfl⟩
   rw[<-hs0]
   have hs1:s0=⟨(wPart m 0).toArray⟩:=by rw[hs0,HC.out,wPart_zero]
   have HS0:Hid _:=hs1
   clear hs0 hs1 HC
   have hbw:=hb0.trans (hb1.mono hb0.size)
   obtain⟨ao,cap,b,off,hv,h1,h2⟩:=HM0.out.v
   simp only[Value.slice.injEq,true_and]at hv
   obtain⟨rfl,rfl⟩:=hv
   have H1:Hid _:=h1
   have H2:Hid _:=h2
   clear h1 h2
   go_wp2
   go_loopw [5,6] (fun sv i wr=>∃(k:Nat) (st:ByteArray),k<=m.funcs.length/\i=.int .i64 k/\sv=.string st/\st=⟨(wPart m k).toArray⟩/\(m.funcs.take k).all Pu.smallF=true/\Below W0.heap.size W0 wr) (fun _ i _=>m.funcs.length-(intOf i).toNat)
   case atStart=>exact⟨0,s0,Nat.zero_le _,rfl,rfl,HS0.out,by simp,hb1⟩
   case round=>
    obtain⟨k,st,hk,rfl,rfl,hst,hall,hb⟩:=hrel
    have hstl:st.size<=2000000:=by rw[hst];exact wPart_len m k hall n1 s2
    have HST:Hid _:=hst
    have HALL:Hid _:=hall
    have d1:=(hb.cell (p:=⟨w.heap.size,1,none⟩) hz).trans hk0.c1
    have hbz:=hb.size
    clear hst hall hb1 hbw
    by_cases hlt:k<m.funcs.length
    ·obtain⟨rfl,hbB⟩:=H1.out (by omega)
     obtain⟨x,g0,g1,g2,g3,hx⟩:=H2.out k hlt
     obtain⟨x1,y1,x2,y2,x3,y3,x4,y4,rfl⟩:=hx.shape
     have k0:=(hb.cell (p:=⟨b,off+k*4,none⟩) hbB).trans g0
     have k1:=(hb.cell (p:=⟨b,off+k*4+1,none⟩) hbB).trans g1
     have k2:=(hb.cell (p:=⟨b,off+k*4+2,none⟩) hbB).trans g2
     have k3:=(hb.cell (p:=⟨b,off+k*4+3,none⟩) hbB).trans g3
     have hf:FnR wr wr.heap.size _ _:=(hx.below hb).wide hbz
     have hmem:m.funcs.getD k ⟨[],[],[],[]⟩∈m.funcs:=by rw[List.getD_eq_getElem?_getD,List.getElem?_eq_getElem hlt];exact List.getElem_mem hlt
     have hcl:=HN.out _ hmem
     have HT:Hid _:=wPart_succ m k hlt
     have HTK:Hid _:=take_all_snoc m.funcs Pu.smallF k ⟨[],[],[],[]⟩ hlt
     have HMEM:Hid _:=hmem
     clear g0 g1 g2 g3 hx hmem
     generalize m.funcs.getD k ⟨[],[],[],[]⟩=f at *
     simp only at *
     have q2:b<wr.heap.size:=by omega
     have q0:w.heap.size<wr.heap.size:=by omega
     go_wp2_with fail
     refine(rfn_any f ⟨.slice x1 f.params.length y1,.slice x2 f.results.length y2,.slice x3 f.locals.length y3,.slice x4 f.code.length y4⟩ _ hf hcl).mono ?_
     rintro e w3 ⟨rfl,hb3⟩
     have hb4:Below W0.heap.size W0 w3:=hb.trans (hb3.mono hbz)
     clear hb hb3 d1 k0 k1 k2 k3 hf
     cases hsf:Pu.smallF f with
     | false=>
      have HE:Hid (Pu.renc m=([],2)):=by
       show _=_
       unfold Pu.renc
       rw[if_neg]
       intro h
       simp only[Pu.smallM,Bool.and_eq_true,decide_eq_true_eq,List.all_eq_true]at h
       rw[h.2 f HMEM.out]at hsf
       simp at hsf
      have hbf:=hb0.trans (hb4.mono hb0.size)
      clear hsf hb4
      go_wp2
      go_ret2
      rw[HE.out]
      exact⟨rfl,hbf⟩
     | true=>
      have hrs:=rfnStr_yes hsf
      have hrl:(rfnStr f).size<=1300:=by rw[hrs];exact smallF_len hsf
      have HRS:Hid _:=hrs
      have HSF:Hid _:=hsf
      clear hrs hsf
      generalize rfnStr f=tt at *
      have t3:(9223372036854775807<st.size+tt.size)=False:=by simp;omega
      go_wp2
      go_roundw
      case rel=>exact⟨k+1,_,hlt,by go_num,rfl,by rw[HST.out,HRS.out];exact HT.out,by rw[HTK.out,HALL.out,HSF.out];rfl,hb4⟩
      case measure=>simp[intOf];omega
    ·have hkn:k=m.funcs.length:=by omega
     subst hkn
     have hwm:st=⟨(Pu.wMd m).toArray⟩:=by rw[HST.out,wPart_all]
     have hsm:Pu.smallM m=true:=by
      have h1:=HALL.out
      rw[List.take_of_length_le (Nat.le_refl _)]at h1
      simp only[Pu.smallM,Bool.and_eq_true,decide_eq_true_eq]
      exact⟨⟨HS1.out,s2⟩,h1⟩
     have HRE:Hid (Pu.renc m=if(Pu.atEnd st (Pu.module st).2).2=true then([],2) else if 1500<st.size then([],1) else(Pu.wMd m,0)):=by
      show _=_
      have hsz:st.size=(Pu.wMd m).length:=by rw[hwm];rfl
      unfold Pu.renc Pu.wholeBad
      rw[if_pos hsm,hsz,<-hwm]
     have HWM:Hid _:=hwm
     have ct0:Ct (wr.alloc (.cells #[.string st,.int .i64 0,.int .i64 (-1)] 114)) wr.heap.size st 0 (bd (0,false)):=by
      have:=heap_alloc_new wr (.cells #[.string st,.int .i64 0,.int .i64 (-1)] 114)
      simpa[Ct,bd]using this
     have hb4:=(hb0.trans (hb.mono hb0.size)).alloc (Nat.le_trans hb0.size hbz) (.cells #[.string st,.int .i64 0,.int .i64 (-1)] 114)
     clear hwm hsm HST HALL HN hb
     go_wp2_with fail
     refine(whole_any _ st _ ct0 (by unfold maxLen;omega)).mono ?_
     rintro e w5 ⟨rfl,ct5,hg5⟩
     have hwz:w.heap.size<=wr.heap.size:=by omega
     have hb5:=hb4.grown hg5 (by simp only[World.size_alloc];omega) (by intro k hk;simp at hk;omega)
     clear ct0 hb4 hg5
     generalize Pu.atEnd st (Pu.module st).2=sf at *
     have c2':=ct5.c2
     clear ct5
     cases hbad:sf.2 with
     | true=>
      have hbn:¬bd sf<0:=fun h0=>by have:=bd_neg.1 h0;rw[hbad]at this;simp at this
      have HE:Hid (Pu.renc m=([],2)):=by show _=_;rw[HRE.out,if_pos hbad]
      clear hbad HRE
      generalize bd sf=bb at *
      have hbn2:0<=bb:=by omega
      go_wp2
      go_ret2
      rw[HE.out]
      exact⟨rfl,hb5⟩
     | false=>
      have hbn:=bd_neg.2 hbad
      have HE:Hid (Pu.renc m=if 1500<st.size then([],1) else(Pu.wMd m,0)):=by show _=_;rw[HRE.out,if_neg (by rw[hbad];simp)]
      clear hbad HRE
      generalize bd sf=bb at *
      by_cases hl:1500<st.size
      ·go_wp2
       go_ret2
       rw[HE.out,if_pos hl]
       exact⟨rfl,hb5⟩
      ·go_wp2
       go_ret2
       rw[HE.out,if_neg hl,HWM.out]
       exact⟨rfl,hb5⟩
 ·have HS:Hid (Pu.renc m=([],2)):=by
   show _=_
   unfold Pu.renc
   rw[if_neg]
   intro h
   simp only[Pu.smallM,Bool.and_eq_true,decide_eq_true_eq]at h
   exact hsm h.1
  clear hm0
  have HSM:Hid _:=hsm
  clear hsm
  cases s1:Pu.smallL m.kinds with
  | false=>
   clear s1
   go_wp2
   go_ret2
   rw[HS.out]
   exact⟨rfl,hb0⟩
  | true=>
   have hl4:255<m.funcs.length:=by
    apply Nat.lt_of_not_le
    intro hl
    exact HSM.out ⟨s1,hl⟩
   clear s1
   go_wp2
   go_ret2
   rw[HS.out]
   exact⟨rfl,hb0⟩
end Go.Proofs.YtjamgmbdilkbcaaGreat
