import Derived.Test.YtjamgmbdilkbcaaGreatLotAll34
import Derived.Test.YtjamgmbdilkbcaaGreatLotAll17
import Derived.Test.YtjamgmbdilkbcaaGreatLotAll12
set_option maxHeartbeats 2000000
set_option maxRecDepth 100000
namespace Go.Proofs.YtjamgmbdilkbcaaGreat
open Go.RowKit
namespace Dw
open Dr (Gg Rm)
section
variable {w w':World} {B gq rq:Nat} {C:Cx} {g:Gg} {r:Rm} {hv sv pv kv v':Value}
theorem Sx.setHolds(h:Sx w B gq rq C g r hv sv pv kv){l:List Dr.Hd}(hb:Below w.heap.size w w')(ho:w'.ownsRow w.heap.size 145 3 v' l.length (hc l)):
  Sx (w'.setCell ⟨gq,2,none⟩ v') B gq rq C { g with holds:=l } r v' sv pv kv:=by
 have hnm:=h.named
 obtain⟨a1,a2⟩:=h.apart
 have h1:=h.below hb
 have hset:∀k,k≠gq->(w'.setCell ⟨gq,2,none⟩ v').heap[k]?=w'.heap[k]?:=fun k hk=>Below.heap_setCell _ _ _ _ hk
 have keep:∀{b e size n:Nat} {v:Value} {xs:List Value},v∈[hv,sv,pv,kv]->w'.ownsRow b e size v n xs->(w'.setCell ⟨gq,2,none⟩ v').ownsRow b e size v n xs:=fun hm ho=>owns_block ho fun k hk2=>hset k (a2 k (mem_bl hm hk2)).1
 have hnd:(gq::rq::bl [v',sv,pv,kv]).Nodup:=by
  have h0:([gq,rq]++(hv.ownBlock.toList++bl [sv,pv,kv])).Nodup:=by simpa[bl]using h.nd
  cases hk:v'.ownBlock with
  | none=>
   rw[List.nodup_append]at h0
   obtain⟨n1,n2,n3⟩:=h0
   rw[List.nodup_append]at n2
   have:([gq,rq]++bl [sv,pv,kv]).Nodup:=by
    rw[List.nodup_append]
    exact⟨n1,n2.2.1,fun a ha b hb=>n3 a ha b (List.mem_append.2 (.inr hb))⟩
   simpa[bl,hk]using this
  | some k=>
   have hkl:=(ho.lt k hk).1
   have hX:k ∉ [gq,rq]:=fun hm=>by have:=hnm k (by simp only[List.mem_cons,List.not_mem_nil,or_false]at hm ⊢;rcases hm with hm|hm;exact .inl hm;exact .inr (.inl hm));omega
   have hT:k ∉ bl [sv,pv,kv]:=fun hm=>by have:=hnm k (by simp only[List.mem_cons];exact .inr (.inr (by simp[bl]at hm ⊢;exact .inr hm)));omega
   have:=nd_swap h0 hX hT
   simpa[bl,hk]using this
 have hvg:∀k,v'.ownBlock=some k->k≠gq:=fun k hk e=>(List.nodup_cons.1 hnd).1 (by rw[<-e];exact List.mem_cons_of_mem _ (mem_bl (v:=v') (by simp) hk))
 refine⟨by have:=h1.gb;simp[World.setCell,Array.getElem?_modify,this,gcells],(hset rq (fun e=>a1 e.symm)).trans h1.rb,?_,keep (by simp) h1.so,keep (by simp) h1.po,keep (by simp) h1.ko,h.lt,h.le,hnd,fun k hk=>⟨by have:=(h1.pr k hk).1;simpa using this,fun hm=>?_⟩⟩
 rotate_left
 ·have hp:=h.pr k hk
  simp only[List.mem_cons,bl,List.flatMap_cons,List.flatMap_nil,List.append_nil,List.mem_append]at hp hm
  rcases hm with hm|hm|hm|hm
  ·exact hp.2 (.inl hm)
  ·exact hp.2 (.inr (.inl hm))
  ·have:=(ho.lt k (by simpa using hm)).1
   omega
  ·exact hp.2 (.inr (.inr (.inr hm)))
 have ho2:w'.ownsRow 0 145 3 v' l.length (hc l):=by
  refine⟨ho.1,?_⟩
  rcases ho.2 with hn|⟨g',cap',cur,e1,e2,e3⟩
  ·exact .inl hn
  ·exact .inr ⟨g',cap',cur,e1,Nat.zero_le _,e3⟩
 exact owns_block ho2 fun k hk=>hset k (hvg k hk)
theorem lo_holds(h:Sx w B gq rq C g r hv sv pv kv)(hb:Below w.heap.size w w')(v:Value):Lo B gq C.P w (w'.setCell ⟨gq,2,none⟩ v):=
 (h.loB hb).trans (Lo.set (p:=⟨gq,2,none⟩) (.inl rfl) h.npg v)
end
theorem dfetch_any(w:World)(B gq rq:Nat)(C:Cx)(g:Gg)(r:Rm)(kind:Int)(h:SO w B gq rq C g r)(hl:r.stk.length<=16)(hh:g.holds.length<=900000):
  Calls Tryz.prog 113 #[.pointer (some ⟨gq,0,none⟩),.pointer (some ⟨rq,0,none⟩),.int .i64 15,.int .i64 kind] w fun e w'=>e=.returned (.tuple #[])/\OpOut w w' B gq rq C (Dr.account C.who 15 kind g r):=by
 obtain⟨hv,sv,pv,kv,h⟩:=h
 have hHs:=owns_hs h.ho
 have c2:=h.c2
 have c3:=h.c3
 have CF:=hid (find_any g.holds hv C.who kind w.drew (owns_hs (h.below (Below.refl _ _).drew).ho) (by omega))
 have HD:Hid (Dr.account C.who 15 kind g r=if(Dr.wrong (Dr.find g.holds C.who kind<0) 7 g).err=0 then Dr.put kind ((Dr.wrong (Dr.find g.holds C.who kind<0) 7 g).holds.getD (Dr.find g.holds C.who kind).toNat ⟨0,0,0⟩).n { Dr.wrong (Dr.find g.holds C.who kind<0) 7 g with holds:=Dr.without (Dr.wrong (Dr.find g.holds C.who kind<0) 7 g).holds (Dr.find g.holds C.who kind) } r else(Dr.wrong (Dr.find g.holds C.who kind<0) 7 g,r)):=hid rfl
 have hsz:=Nat.le_of_lt (Nat.lt_of_le_of_lt h.le h.rl)
 have HX:=hid fun(W:World) (hb:Below w.heap.size w W)=>h.below hb
 have HLo:=hid fun(W:World) (hb:Below w.heap.size w W)=>h.loB hb
 obtain⟨ao,cap,hvs⟩:=owns_shape h.ho
 subst hvs
 have hgl:=h.gl
 have hfi:∀{n:Int},Dr.val C.who kind g.holds=some n->∃i:Nat,Dr.find g.holds C.who kind=i/\i<g.holds.length:=fun hv=>by
  obtain⟨i,_,hi,hl,_⟩:=Dr.find_some hv
  exact⟨i,hi,hl⟩
 by_cases he:g.err=0
 ·by_cases hneg:Dr.find g.holds C.who kind<0
  ·rw[Dr.wrong_yes hneg 7 he]at HD
   rw[if_neg (by simp)]at HD
   generalize Dr.find g.holds C.who kind=FI at *
   clear h hHs hfi
   go_enter Tryz.func113,Tryz.ntmps113
   go_wp2_with fail
   go_region_held3 (fun w'=>w'.cell? ⟨gq,2,none⟩=some (.slice ao g.holds.length cap)/\w'.cell? ⟨gq,3,none⟩=some (.int .i64 C.who))
    (first|exact⟨c2,c3⟩|exact⟨(hb1.cell (p:=⟨gq,2,none⟩) hgl).trans c2,(hb1.cell (p:=⟨gq,3,none⟩) hgl).trans c3⟩)
    ((go_at_call 64;refine CF.out.mono ?_;rintro e w1 ⟨rfl,hb1⟩))
   have hb1:=mdrew hb1
   have X1:=HX.out w1 hb1
   go_wp2_with fail
   refine(wrong_any w1 B gq rq C g r _ sv pv kv _ 7 X1).mono ?_
   rintro e w2 ⟨rfl,X2,g2⟩
   rw[Dr.wrong_yes rfl 7 he]at X2
   have c6:=X2.c6
   simp only at c6
   have FF:=hid (show OpOut w w2 B gq rq C ({ g with err:=7 },r) from ⟨⟨_,_,_,_,X2⟩,(HLo.out w1 hb1).trans (X1.loW g2)⟩)
   clear X1 X2 g2 HX HLo CF
   go_wp2
   refine bodyPost_ret (results_none rfl _ _ _) rfl ?_
   rw[HD.out]
   exact⟨rfl,FF.out⟩
  ·have hval:∃n,Dr.val C.who kind g.holds=some n:=by
    cases hv:Dr.val C.who kind g.holds with
    | none=>exact absurd (Dr.find_neg.2 hv) hneg
    | some n=>exact⟨n,rfl⟩
   obtain⟨n,hn⟩:=hval
   obtain⟨i,hi,hil⟩:=hfi hn
   rw[Dr.wrong_no hneg,if_pos he,hi,show((i:Int)).toNat=i from by omega]at HD
   rw[hi]at CF hneg
   clear hfi hn
   obtain⟨ao',cap',b',hvv,q1,q2⟩:=hHs
   simp only[Value.slice.injEq,true_and]at hvv
   obtain⟨rfl,rfl⟩:=hvv
   obtain⟨rfl,hbl⟩:=q1 (by omega)
   obtain⟨_,_,n3⟩:=q2 i hil
   have HRD:=hid fun(W:World) (X:Sx W B gq rq C g r (.slice (some ⟨b',0,none⟩) g.holds.length cap) sv pv kv)=>show W.cell? ⟨b',i*3+2,none⟩=some (.int .i64 (g.holds.getD i ⟨0,0,0⟩).n) from by
    obtain⟨ao2,cap2,b2,e2,p1,p2⟩:=owns_hs X.ho
    simp only[Value.slice.injEq,true_and]at e2
    obtain⟨rfl,rfl⟩:=e2
    have:=(p1 (by omega)).1
    simp only[Option.some.injEq,Addr.mk.injEq,and_true]at this
    subst this
    exact(p2 i hil).2.2
   have CW:=hid fun(W:World) (X:Sx W B gq rq C g r (.slice (some ⟨b',0,none⟩) g.holds.length cap) sv pv kv)=>without_any g.holds _ i W (owns_hs X.ho) (by omega)
   clear h q1 q2 n3
   generalize (g.holds.getD i ⟨0,0,0⟩).n=NV at *
   generalize Dr.without g.holds i=WO at *
   generalize g.holds.length=GL at *
   go_enter Tryz.func113,Tryz.ntmps113
   go_wp2_with fail
   go_region_held3 (fun w'=>w'.cell? ⟨gq,2,none⟩=some (.slice (some ⟨b',0,none⟩) GL cap)/\w'.cell? ⟨gq,3,none⟩=some (.int .i64 C.who))
    (first|exact⟨c2,c3⟩|exact⟨(hb1.cell (p:=⟨gq,2,none⟩) hgl).trans c2,(hb1.cell (p:=⟨gq,3,none⟩) hgl).trans c3⟩)
    ((go_at_call 64;refine CF.out.mono ?_;rintro e w1 ⟨rfl,hb1⟩))
   have hb1:=mdrew hb1
   have X1:=HX.out w1 hb1
   go_wp2_with fail
   refine(wrong_any w1 B gq rq C g r _ sv pv kv _ 7 X1).mono ?_
   rintro e w2 ⟨rfl,X2,g2⟩
   rw[Dr.wrong_no (by simp)]at X2
   have c6:=X2.c6
   rw[he]at c6
   have d2:=X2.c2
   have dn:=HRD.out w2 X2
   have CW2:=hid (CW.out w2 X2)
   have HX3:=hid fun(W:World) (hb:Below w2.heap.size w2 W) (v3:Value) (ho:W.ownsRow w2.heap.size 145 3 v3 WO.length (hc WO))=>And.intro (And.intro (X2.below hb).c2 ((X2.below hb).gz 2)) (And.intro (X2.setHolds hb ho) (lo_holds X2 hb v3))
   have L2:=(HLo.out w1 hb1).trans (X1.loW g2)
   have hil2:i<900000:=by omega
   clear X1 X2 g2 HX HLo CF CW HRD c2 c3 hb1
   go_wp2_with fail
   refine CW2.out.mono ?_
   rintro e w3 ⟨v3,rfl,ho3,hb3⟩
   obtain⟨⟨y2,yz⟩,X3,L3⟩:=HX3.out w3 hb3 v3 ho3
   obtain⟨ao3,cap3,rfl⟩:=owns_shape ho3
   have CP:=hid (dput_any _ B gq rq C _ r kind NV ⟨_,_,_,_,X3⟩ (by omega))
   clear HX3 CW2 ho3 hb3 X3
   go_wp2_with fail
   refine CP.out.mono ?_
   rintro e w4 ⟨rfl,o4⟩
   have FF:=hid (show OpOut w w4 B gq rq C _ from ⟨o4.1,(L2.trans L3).trans o4.2⟩)
   clear CP o4 L2 L3
   go_wp2
   refine bodyPost_ret (results_none rfl _ _ _) rfl ?_
   rw[HD.out]
   exact⟨rfl,FF.out⟩
 ·have hw:Dr.wrong (Dr.find g.holds C.who kind<0) 7 g=g:=by unfold Dr.wrong;rw[if_neg (fun x=>he x.2)]
  rw[hw,if_neg he]at HD
  have n1:(g.err == 0)=false:=by simpa using he
  have n2:(g.err != 0)=true:=by simpa using he
  generalize Dr.find g.holds C.who kind=FI at *
  clear h hHs hfi hw
  have hwb:∀b:Bool,Dr.wrong (b=true) 7 g=g:=fun b=>by unfold Dr.wrong;rw[if_neg (fun x=>he x.2)]
  go_enter Tryz.func113,Tryz.ntmps113
  go_wp2_with fail
  go_region_held3 (fun w'=>w'.cell? ⟨gq,2,none⟩=some (.slice ao g.holds.length cap)/\w'.cell? ⟨gq,3,none⟩=some (.int .i64 C.who))
   (first|exact⟨c2,c3⟩|exact⟨(hb1.cell (p:=⟨gq,2,none⟩) hgl).trans c2,(hb1.cell (p:=⟨gq,3,none⟩) hgl).trans c3⟩)
   ((go_at_call 64;refine CF.out.mono ?_;rintro e w1 ⟨rfl,hb1⟩))
  have hb1:=mdrew hb1
  have X1:=HX.out w1 hb1
  go_wp2_with fail
  refine(wrong_any w1 B gq rq C g r _ sv pv kv _ 7 X1).mono ?_
  rintro e w2 ⟨rfl,X2,g2⟩
  rw[hwb]at X2
  have c6:=X2.c6
  have FF:=hid (show OpOut w w2 B gq rq C (g,r) from ⟨⟨_,_,_,_,X2⟩,(HLo.out w1 hb1).trans (X1.loW g2)⟩)
  clear X1 X2 g2 HX HLo CF c2 c3
  go_wp2
  refine bodyPost_ret (results_none rfl _ _ _) rfl ?_
  rw[HD.out]
  exact⟨rfl,FF.out⟩
end Dw
namespace Dw
open Dr (Gg Rm)
theorem pc_get:∀(l:List (Bool × Int × Int)) (i:Nat),i<l.length->(pc l)[i*3]?=some (.bool (l.getD i Dr.noSpot).1)/\(pc l)[i*3+1]?=some (.int .i64 (l.getD i Dr.noSpot).2.1)/\(pc l)[i*3+2]?=some (.int .i64 (l.getD i Dr.noSpot).2.2)
 | [],i,h=>absurd h (by simp)
 | a::l,0,_=>⟨by simp[pc],by simp[pc],by simp[pc]⟩
 | a::l,i+1,h=>by
  have ih:=pc_get l i (by simpa using h)
  have e:pc (a::l)=[.bool a.1,.int .i64 a.2.1,.int .i64 a.2.2]++pc l:=by simp[pc]
  rw[e]
  refine⟨?_,?_,?_⟩
  ·rw[List.getElem?_append_right (by simp;omega)];simp only[List.length_cons,List.length_nil];rw[show(i+1)*3-(0+1+1+1)=i*3 from by omega];simpa using ih.1
  ·rw[List.getElem?_append_right (by simp;omega)];simp only[List.length_cons,List.length_nil];rw[show(i+1)*3+1-(0+1+1+1)=i*3+1 from by omega];simpa using ih.2.1
  ·rw[List.getElem?_append_right (by simp;omega)];simp only[List.length_cons,List.length_nil];rw[show(i+1)*3+2-(0+1+1+1)=i*3+2 from by omega];simpa using ih.2.2
theorem pc_set:∀(l:List (Bool × Int × Int)) (i:Nat) (v:Bool × Int × Int),i<l.length->(((pc l).set (i*3) (.bool v.1)).set (i*3+1) (.int .i64 v.2.1)).set (i*3+2) (.int .i64 v.2.2)=pc (l.set i v)
 | [],i,v,h=>absurd h (by simp)
 | a::l,0,v,_=>by simp[pc]
 | a::l,i+1,v,h=>by
  have ih:=pc_set l i v (by simpa using h)
  have e:pc (a::l)=.bool a.1::.int .i64 a.2.1::.int .i64 a.2.2::pc l:=by simp[pc]
  have e2:pc ((a::l).set (i+1) v)=.bool a.1::.int .i64 a.2.1::.int .i64 a.2.2::pc (l.set i v):=by simp[pc]
  rw[e,e2,<-ih,show(i+1)*3=i*3+1+1+1 from by omega,show i*3+1+1+1+1=(i*3+1)+1+1+1 from by omega,show i*3+1+1+1+2=(i*3+2)+1+1+1 from by omega]
  simp only[List.set_cons_succ]
theorem owns_at{w:World}{B e size n g cap:Nat}{xs:List Value}(h:w.ownsRow B e size (.slice (some ⟨g,0,none⟩) n cap) n xs)(j:Nat)(u:Value):(w.setCell ⟨g,j,none⟩ u).ownsRow B e size (.slice (some ⟨g,0,none⟩) n cap) n (xs.set j u):=by
 refine⟨by simpa using h.1,.inr ?_⟩
 rcases h.2 with ⟨hh,_⟩|⟨g',cap',cur,hh,hB,hg,hnc,hcm,hcs,htake⟩
 ·simp at hh
 ·simp only[Value.slice.injEq,Option.some.injEq,Addr.mk.injEq,and_true,true_and]at hh
  obtain⟨rfl,rfl⟩:=hh
  refine⟨g,cap,cur.setIfInBounds j u,rfl,hB,by simp[World.setCell,Array.getElem?_modify,hg],hnc,hcm,by simpa using hcs,?_⟩
  rw[Array.toList_setIfInBounds,<-htake,List.take_set]
section
variable {w:World} {B gq rq gp cap:Nat} {C:Cx} {g:Gg} {r:Rm} {hv sv kv:Value}
theorem Sx.setSpot(h:Sx w B gq rq C g r hv sv (.slice (some ⟨gp,0,none⟩) r.spots.length cap) kv){i:Nat}(hi:i<r.spots.length)(v:Bool × Int × Int):
  Sx (((w.setCell ⟨gp,i*3,none⟩ (.bool v.1)).setCell ⟨gp,i*3+1,none⟩ (.int .i64 v.2.1)).setCell ⟨gp,i*3+2,none⟩ (.int .i64 v.2.2)) B gq rq C g { r with spots:=r.spots.set i v } hv sv (.slice (some ⟨gp,0,none⟩) r.spots.length cap) kv:=by
 obtain⟨a1,a2⟩:=h.apart
 have hgp:=a2 gp (mem_bl (v:=.slice (some ⟨gp,0,none⟩) r.spots.length cap) (by simp) rfl)
 have hset:∀k,k≠gp->(((w.setCell ⟨gp,i*3,none⟩ (.bool v.1)).setCell ⟨gp,i*3+1,none⟩ (.int .i64 v.2.1)).setCell ⟨gp,i*3+2,none⟩ (.int .i64 v.2.2)).heap[k]?=w.heap[k]?:=fun k hk=>by
  rw[Below.heap_setCell _ _ _ _ hk,Below.heap_setCell _ _ _ _ hk,Below.heap_setCell _ _ _ _ hk]
 have hnd:((gq::rq::(hv.ownBlock.toList++sv.ownBlock.toList))++([gp]++kv.ownBlock.toList)).Nodup:=by
  have:=h.nd
  simpa[bl,Value.ownBlock]using this
 rw[List.nodup_append]at hnd
 obtain⟨_,n2,n3⟩:=hnd
 rw[List.nodup_append]at n2
 have keep1:∀{b e size n:Nat} {u:Value} {xs:List Value},u∈[hv,sv]->w.ownsRow b e size u n xs->(((w.setCell ⟨gp,i*3,none⟩ (.bool v.1)).setCell ⟨gp,i*3+1,none⟩ (.int .i64 v.2.1)).setCell ⟨gp,i*3+2,none⟩ (.int .i64 v.2.2)).ownsRow b e size u n xs:=fun {_ _ _ _ u _} hm ho=>owns_block ho fun k hk=>hset k (fun e=>by
  refine n3 k ?_ gp (by simp) e
  simp only[List.mem_cons,List.not_mem_nil,or_false]at hm
  simp only[List.mem_cons,List.mem_append]
  rcases hm with rfl|rfl
  ·exact .inr (.inr (.inl (by rw[hk];simp)))
  ·exact .inr (.inr (.inr (by rw[hk];simp))))
 have hp:=owns_at (owns_at (owns_at h.po (i*3) (.bool v.1)) (i*3+1) (.int .i64 v.2.1)) (i*3+2) (.int .i64 v.2.2)
 rw[pc_set _ _ _ hi]at hp
 refine⟨(hset gq (fun e=>hgp.1 e.symm)).trans h.gb,(hset rq (fun e=>hgp.2 e.symm)).trans h.rb,keep1 (by simp) h.ho,keep1 (by simp) h.so,by simpa using hp,owns_block h.ko fun k hk=>hset k (fun e=>n2.2.2 gp (by simp) k (by rw[hk];simp) e.symm),h.lt,h.le,h.nd,fun k hk=>⟨by simpa using (h.pr k hk).1,(h.pr k hk).2⟩⟩
theorem lo_spot{i:Nat}(hB:B<=gp)(hP:¬C.P gp)(v:Bool × Int × Int):Lo B gq C.P w (((w.setCell ⟨gp,i*3,none⟩ (.bool v.1)).setCell ⟨gp,i*3+1,none⟩ (.int .i64 v.2.1)).setCell ⟨gp,i*3+2,none⟩ (.int .i64 v.2.2)):=
 ((Lo.set (p:=⟨gp,i*3,none⟩) (.inr hB) hP _).trans (Lo.set (p:=⟨gp,i*3+1,none⟩) (.inr hB) hP _)).trans (Lo.set (p:=⟨gp,i*3+2,none⟩) (.inr hB) hP _)
theorem SO.spots{w:World}(h:SO w B gq rq C g r){i:Nat}(hi:i<r.spots.length):
  ∃gp cap,w.cell? ⟨rq,1,none⟩=some (.slice (some ⟨gp,0,none⟩) r.spots.length cap)/\B<=gp/\w.cell? ⟨gp,i*3,none⟩=some (.bool (r.spots.getD i Dr.noSpot).1)/\w.cell? ⟨gp,i*3+1,none⟩=some (.int .i64 (r.spots.getD i Dr.noSpot).2.1)/\w.cell? ⟨gp,i*3+2,none⟩=some (.int .i64 (r.spots.getD i Dr.noSpot).2.2)/\(∀j,w.frozen? ⟨gp,j,none⟩=false)/\
   ∀v,OpOut w (((w.setCell ⟨gp,i*3,none⟩ (.bool v.1)).setCell ⟨gp,i*3+1,none⟩ (.int .i64 v.2.1)).setCell ⟨gp,i*3+2,none⟩ (.int .i64 v.2.2)) B gq rq C (g,{ r with spots:=r.spots.set i v }):=by
 obtain⟨hv,sv,pv,kv,h⟩:=h
 obtain⟨av,cap,hpv⟩:=owns_shape h.po
 subst hpv
 have hav:∃gp,av=some ⟨gp,0,none⟩/\B<=gp/\∀j,w.frozen? ⟨gp,j,none⟩=false:=by
  rcases h.po.2 with ⟨_,hn⟩|⟨g',cap',cur,hh,hB,hg,_⟩
  ·omega
  ·simp only[Value.slice.injEq,true_and]at hh
   exact⟨g',hh.1,hB,fun j=>by simp[World.frozen?,hg]⟩
 obtain⟨gp,rfl,hB,hz⟩:=hav
 obtain⟨g0,g1,g2⟩:=pc_get r.spots i hi
 have k0:=h.po.cells (g:=gp) rfl _ _ g0
 have k1:=h.po.cells (g:=gp) rfl _ _ g1
 have k2:=h.po.cells (g:=gp) rfl _ _ g2
 rw[addr_add]at k0 k1 k2
 exact⟨gp,cap,h.r1,hB,by simpa using k0,by simpa using k1,by simpa using k2,hz,fun v=>⟨⟨_,_,_,_,h.setSpot hi v⟩,lo_spot hB (h.npb (v:=.slice (some ⟨gp,0,none⟩) r.spots.length cap) (by simp) rfl) v⟩⟩
theorem SO.kinds{w:World}(h:SO w B gq rq C g r){i:Nat}(hi:i<r.kinds.length):
  ∃gk cap,w.cell? ⟨rq,2,none⟩=some (.slice (some ⟨gk,0,none⟩) r.kinds.length cap)/\w.cell? ⟨gk,i,none⟩=some (.int .i64 (r.kinds.getD i 0)):=by
 obtain⟨hv,sv,pv,kv,h⟩:=h
 obtain⟨av,cap,hkv⟩:=owns_shape h.ko
 subst hkv
 have hav:∃gk,av=some ⟨gk,0,none⟩:=by
  rcases h.ko.2 with ⟨_,hn⟩|⟨g',cap',cur,hh,_⟩
  ·omega
  ·simp only[Value.slice.injEq,true_and]at hh
   exact⟨g',hh.1⟩
 obtain⟨gk,rfl⟩:=hav
 have k0:=h.ko.cells (g:=gk) rfl i (.int .i64 (r.kinds.getD i 0)) (by simp[kc,List.getD_eq_getElem?_getD,hi])
 rw[addr_add]at k0
 exact⟨gk,cap,h.r2,by simpa using k0⟩
end
end Dw
namespace Dw
open Dr (Gg Rm)
theorem SO.below{w w':World}{B gq rq:Nat}{C:Cx}{g:Gg}{r:Rm}(h:SO w B gq rq C g r)(hb:Below w.heap.size w w'):SO w' B gq rq C g r:=by
 obtain⟨hv,sv,pv,kv,h⟩:=h
 exact⟨hv,sv,pv,kv,h.below hb⟩
theorem SO.size{w:World}{B gq rq:Nat}{C:Cx}{g:Gg}{r:Rm}(h:SO w B gq rq C g r):gq<B/\B<=rq/\rq<w.heap.size:=by
 obtain⟨hv,sv,pv,kv,h⟩:=h
 exact⟨h.lt,h.le,h.rl⟩
theorem SO.m0{w:World}{B gq rq:Nat}{C:Cx}{g:Gg}{r:Rm}(h:SO w B gq rq C g r):w.cell? ⟨gq,0,none⟩=some C.ck/\w.cell? ⟨gq,1,none⟩=some C.cf:=by
 obtain⟨hv,sv,pv,kv,h⟩:=h
 exact⟨h.c0,h.c1⟩
theorem SO.loB{w w':World}{B gq rq:Nat}{C:Cx}{g:Gg}{r:Rm}(h:SO w B gq rq C g r)(hb:Below w.heap.size w w'):Lo B gq C.P w w':=by
 obtain⟨hv,sv,pv,kv,h⟩:=h
 exact h.loB hb
theorem wrong_iff{P Q:Prop}[Decidable P][Decidable Q](h:P ↔ Q)(e:Int)(g:Gg):Dr.wrong P e g=Dr.wrong Q e g:=by
 unfold Dr.wrong
 by_cases hp:P
 ·have hq:=h.1 hp;simp[hp,hq]
 ·have hq:¬Q:=fun q=>hp (h.2 q);simp[hp,hq]
theorem put_spots(k n:Int)(g:Gg)(r:Rm):(Dr.put k n g r).2.spots=r.spots/\(Dr.put k n g r).2.kinds=r.kinds:=by
 unfold Dr.put
 split
 ·exact⟨rfl,rfl⟩
 ·split<;>exact⟨rfl,rfl⟩
theorem take_spots(k:Int)(g:Gg)(r:Rm):(Dr.take k g r).2.2.spots=r.spots/\(Dr.take k g r).2.2.kinds=r.kinds:=by
 unfold Dr.take
 split<;>exact⟨rfl,rfl⟩
theorem dspot_any(w:World)(B gq rq:Nat)(C:Cx)(m:Pu.Md)(g:Gg)(r:Rm)(op:Int)(i:Nat)(h:SO w B gq rq C g r)(hm:MdR w gq C.ck C.cf m)(hi:i<r.kinds.length)(hs:r.spots.length=r.kinds.length)(hk:0<=r.kinds.getD i 0/\r.kinds.getD i 0<=m.kinds.length)(hl:r.stk.length<=16)(hi8:r.kinds.length<=8)(hop:op=8\/op=9\/op=10):
  Calls Tryz.prog 111 #[.pointer (some ⟨gq,0,none⟩),.pointer (some ⟨rq,0,none⟩),.int .i64 op,.int .i64 i] w fun e w'=>e=.returned (.tuple #[])/\OpOut w w' B gq rq C (Dr.spot m op i g r):=by
 obtain⟨z1,z2,z3⟩:=h.size
 obtain⟨gk,ck,k1,k2⟩:=h.kinds hi
 obtain⟨m0,m1⟩:=h.m0
 obtain⟨a1,b1,hck⟩:=hm.k.shape
 obtain⟨a2,b2,hcf⟩:=hm.v.shape
 have HD:Hid (Dr.spot m op i g r=_):=hid (by unfold Dr.spot;rfl)
 generalize hK:r.kinds.getD i 0=K at *
 have M1:=hid fun(W:World) (hb:Below w.heap.size w W)=>rmay_any m C.ck C.cf K 1 W (((hm.wide (by omega)).below hb).wide hb.size) hk
 have M2:=hid fun(W:World) (hb:Below w.heap.size w W)=>rmay_any m C.ck C.cf K 2 W (((hm.wide (by omega)).below hb).wide hb.size) hk
 have HSO:=hid fun(W:World) (hb:Below w.heap.size w W)=>h.below hb
 have HMC:=hid fun(W:World) (hb:Below w.heap.size w W)=>(h.below hb).m0
 have hLo:=hid fun(W:World) (hb:Below w.heap.size w W)=>h.loB hb
 rw[hck]at M1 M2 m0
 rw[hcf]at M1 M2 m1
 have HCK:=hid hck
 have HCF:=hid hcf
 have b0:=Below.refl w.heap.size w
 have hi3:i<r.spots.length:=by omega
 have hii:i<8:=by omega
 generalize r.kinds.length=NK at *
 clear hm h hck hcf
 go_enter Tryz.func111,Tryz.ntmps111
 go_wp2_with fail
 refine(M1.out _ b0).mono ?_
 rintro e w1 ⟨rfl,hb1⟩
 obtain⟨m0',m1'⟩:=HMC.out w1 hb1
 rw[HCK.out]at m0'
 rw[HCF.out]at m1'
 go_wp2_with fail
 refine(M2.out _ hb1).mono ?_
 rintro e w2 ⟨rfl,hb2⟩
 have hb:=hb1.trans (hb2.mono hb1.size)
 have S2:=HSO.out w2 hb
 have L2:=hLo.out w2 hb
 clear M1 M2 HSO HMC hLo m0 m1 m0' m1' hb1 hb2 hb HCK HCF k1 k2 b0
 have HSP:=hid fun(W:World) (G:Gg) (R:Rm) (hW:SO W B gq rq C G R) (hR:R.spots=r.spots)=>by
  have:=hW.spots (i:=i) (by rw[hR];exact hi3)
  rw[hR]at this
  exact this
 generalize r.spots.getD i Dr.noSpot=sp at *
 generalize Fl.may m K 1=c1 at *
 generalize Fl.may m K 2=c2 at *
 obtain⟨sf,sk,sn⟩:=sp
 simp only at *
 rcases hop with rfl|rfl|rfl
 ·simp only[if_true]at HD
  obtain⟨gp,cp,y0,_,y1,_,_,_,_⟩:=HSP.out _ _ _ S2 rfl
  cases sf<;>cases c1
  all_goals (
   go_wp2_with fail
   refine(dwrong_any _ B gq rq C g r _ 99 S2).mono ?_
   rintro e w3 ⟨rfl,o3⟩
   first
    | (rw[wrong_iff (P:=(true=true)) (Q:=false=false\/false=false) (by simp)]at o3)
    | (rw[wrong_iff (P:=(true=true)) (Q:=false=false\/true=false) (by simp)]at o3)
    | (rw[wrong_iff (P:=(true=true)) (Q:=true=false\/false=false) (by simp)]at o3)
    | (rw[wrong_iff (P:=(false=true)) (Q:=true=false\/true=false) (by simp)]at o3)
   obtain⟨gp3,cp3,x0,_,_,_,x3,_,_⟩:=HSP.out _ _ _ o3.1 rfl
   go_wp2_with fail
   refine(dput_any _ B gq rq C _ r K _ o3.1 (by omega)).mono ?_
   rintro e w4 ⟨rfl,o4⟩
   have FF:=hid (show OpOut w w4 B gq rq C _ from ⟨o4.1,(L2.trans o3.2).trans o4.2⟩)
   clear o3 o4 S2 L2 x0 x3 y0 y1 HSP
   go_wp2
   go_end0
   rw[HD.out]
   refine⟨rfl,?_⟩
   have F2:=FF.out
   first
    | exact F2
    | simpa[Dr.wrong]using F2)
 ·simp only[show ¬((9:Int)=8) from by decide,if_false,if_true]at HD
  obtain⟨gp,cp,y0,_,y1,_,_,_,_⟩:=HSP.out _ _ _ S2 rfl
  cases sf
  all_goals (
   go_wp2_with fail
   refine(dwrong_any _ B gq rq C g r _ 99 S2).mono ?_
   rintro e w3 ⟨rfl,o3⟩
   first
    | (rw[wrong_iff (P:=(true=true)) (Q:=false=false) (by simp)]at o3)
    | (rw[wrong_iff (P:=(false=true)) (Q:=true=false) (by simp)]at o3)
   obtain⟨gp3,cp3,x0,_,_,_,x3,_,_⟩:=HSP.out _ _ _ o3.1 rfl
   go_wp2_with fail
   refine(dput_any _ B gq rq C _ r K _ o3.1 (by omega)).mono ?_
   rintro e w4 ⟨rfl,o4⟩
   have hps:=fun G=>(put_spots K sn G r).1
   obtain⟨gp4,cp4,v0,vB,v1,v2,v3,vz,vf⟩:=HSP.out _ _ _ o4.1 (hps _)
   have fz0:=vz (i*3)
   have fz1:=vz (i*3+1)
   have fz2:=vz (i*3+2)
   have FF:=hid (show OpOut w _ B gq rq C _ from ⟨(vf Dr.noSpot).1,((L2.trans o3.2).trans o4.2).trans (vf Dr.noSpot).2⟩)
   clear o3 o4 S2 L2 x0 x3 y0 y1 vf vz HSP
   unfold Dr.noSpot at FF
   go_wp2
   go_end0
   rw[HD.out]
   refine⟨rfl,?_⟩
   have F2:=FF.out
   rw[<-hps]at F2
   exact F2)
 ·simp only[show ¬((10:Int)=8) from by decide,show ¬((10:Int)=9) from by decide,if_false]at HD
  have hps:=take_spots K g r
  have T:=hid (dtake_any w2 B gq rq C g r K S2 (by omega))
  generalize Dr.take K g r=tt at *
  obtain⟨tn,tg,tr⟩:=tt
  simp only at *
  cases sf<;>cases c2
  all_goals (
   go_wp2_with fail
   refine T.out.mono ?_
   rintro e w3 ⟨rfl,o3⟩
   obtain⟨gp3,cp3,x0,_,x1,_,_,_,_⟩:=HSP.out _ _ _ o3.1 hps.1
   go_wp2_with fail
   refine(dwrong_any _ B gq rq C tg tr _ 99 o3.1).mono ?_
   rintro e w4 ⟨rfl,o4⟩
   first
    | (rw[wrong_iff (P:=(false=true)) (Q:=false=true/\false=false) (by simp)]at o4)
    | (rw[wrong_iff (P:=(true=true)) (Q:=true=true/\false=false) (by simp)]at o4)
   obtain⟨gp4,cp4,v0,vB,v1,v2,v3,vz,vf⟩:=HSP.out _ _ _ o4.1 hps.1
   have fz0:=vz (i*3)
   have fz1:=vz (i*3+1)
   have fz2:=vz (i*3+2)
   have FF:=hid (show OpOut w _ B gq rq C _ from ⟨(vf (true,K,tn)).1,((L2.trans o3.2).trans o4.2).trans (vf (true,K,tn)).2⟩)
   clear o3 o4 S2 L2 x0 x1 vf vz T HSP
   go_wp2
   go_end0
   rw[HD.out]
   refine⟨rfl,?_⟩
   have F2:=FF.out
   rw[<-hps.1]at F2
   first
    | exact F2
    | (rw[wrong_iff (P:=false=true/\true=false) (Q:=false=true/\false=false) (by simp)];exact F2)
    | (rw[wrong_iff (P:=true=true/\true=false) (Q:=false=true/\false=false) (by simp)];exact F2))
end Dw
end Go.Proofs.YtjamgmbdilkbcaaGreat
