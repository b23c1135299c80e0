import Derived.Test.YtjamgmbdilkbcaaGreatLotAll33
set_option maxHeartbeats 1000000
set_option maxRecDepth 100000
namespace Go.Proofs.YtjamgmbdilkbcaaGreat
open Go.RowKit
namespace Dw
open Dr (Gg Rm)
theorem Tryz.info192:(Tryz.prog.info? 192).map (fun i=>(i.zero,i.size,i.bytes))=some (some (.agg #[.int .i64 0,.int .i64 0]),2,16):=by kernel_rfl
theorem vc_snoc(l:List (Int × Int))(a:Int × Int):vc (l++[a])=vc l++[.int .i64 a.1,.int .i64 a.2]:=by simp[vc]
theorem vc_len:∀l:List (Int × Int),(vc l).length=l.length*2
 | []=>rfl
 | a::l=>by have:=vc_len l;unfold vc at this ⊢;simp only[List.flatMap_cons,List.length_append,List.length_cons,List.length_nil,this];omega
theorem top_cells{w:World}{B n cap gs:Nat}{l:List (Int × Int)}{a:Int × Int}(ho:w.ownsRow B 192 2 (.slice (some ⟨gs,0,none⟩) n cap) n (vc (l++[a])))(hn:n=l.length+1):
  w.cell? ⟨gs,l.length*2,none⟩=some (.int .i64 a.1)/\w.cell? ⟨gs,l.length*2+1,none⟩=some (.int .i64 a.2)/\n<=cap/\w.ownsRow B 192 2 (.slice (some ⟨gs,0,none⟩) l.length cap) l.length (vc l):=by
 have h1:=ho.cells (g:=gs) rfl (l.length*2) (.int .i64 a.1) (by rw[vc_snoc,List.getElem?_append_right (by rw[vc_len];omega),vc_len];simp)
 have h2:=ho.cells (g:=gs) rfl (l.length*2+1) (.int .i64 a.2) (by rw[vc_snoc,List.getElem?_append_right (by rw[vc_len];omega),vc_len];simp)
 rw[addr_add]at h1 h2
 refine⟨by simpa using h1,by simpa using h2,?_,?_⟩
 ·rcases ho.2 with ⟨hh,_⟩|⟨g',cap',cur,hh,_,_,hnc,_⟩
  ·simp at hh
  ·simp only[Value.slice.injEq,true_and]at hh
   omega
 ·have h:=ho
  rw[vc_snoc]at h
  exact owns_front h (vc_len l) (by omega) rfl
def TakeOut(w w':World)(B gq rq:Nat)(C:Cx)(p:Int × Gg × Rm)(e:Ending):Prop:=e=.returned (.int .i64 p.1)/\OpOut w w' B gq rq C p.2
theorem dtake_any(w:World)(B gq rq:Nat)(C:Cx)(g:Gg)(r:Rm)(kind:Int)(h:SO w B gq rq C g r)(hl:r.stk.length<=1000):
  Calls Tryz.prog 85 #[.pointer (some ⟨gq,0,none⟩),.pointer (some ⟨rq,0,none⟩),.int .i64 kind] w fun e w'=>TakeOut w w' B gq rq C (Dr.take kind g r) e:=by
 obtain⟨hv,sv,pv,kv,h⟩:=h
 obtain⟨av,cap,hsv⟩:=owns_shape h.so
 subst hsv
 have c6:=h.c6
 have z6:=h.gz 6
 have r0:=h.r0
 have zr:=h.rz 0
 by_cases he:g.err=0
 ·have HBAD:Hid (TakeOut w (w.setCell ⟨gq,6,none⟩ (.int .i64 99)) B gq rq C (0,{ g with err:=99 },r) (.returned (.int .i64 0))):=hid ⟨rfl,⟨_,_,_,_,h.setErr 99⟩,h.loG 6 _⟩
  rw[he]at c6
  by_cases hs:r.stk=[]
  ·have e:Dr.take kind g r=(0,{ g with err:=99 },r):=by unfold Dr.take Dr.wrong;simp[hs,he]
   rw[e]
   have hl0:r.stk.length=0:=by rw[hs];rfl
   rw[hl0]at r0
   clear h hs hl0 hl e he
   go_enter Tryz.func85,Tryz.ntmps85
   go_wp2
   go_ret
   exact HBAD.out
  ·obtain⟨l,a,hla⟩:∃l a,r.stk=l++[a]:=⟨r.stk.dropLast,r.stk.getLast hs,(List.dropLast_concat_getLast hs).symm⟩
   have hlen:r.stk.length=l.length+1:=by rw[hla];simp
   have hso:=h.so
   have hav:∃gs,av=some ⟨gs,0,none⟩:=by
    rcases hso.2 with ⟨_,hn⟩|⟨g',cap',cur,hh,_⟩
    ·omega
    ·simp only[Value.slice.injEq,true_and]at hh
     exact⟨g',hh.1⟩
   obtain⟨gs,rfl⟩:=hav
   rw[hla]at hso
   rw[show(l++[a]).length=l.length+1 from by simp]at hso
   obtain⟨k1,k2,k3,k4⟩:=top_cells hso rfl
   rw[hlen]at r0
   have HGOOD:Hid (TakeOut w (w.setCell ⟨rq,0,none⟩ (.slice (some ⟨gs,0,none⟩) l.length cap)) B gq rq C (a.2,g,{ r with stk:=l }) (.returned (.int .i64 a.2))):=hid ⟨rfl,⟨_,_,_,_,h.setStk k4 rfl⟩,h.loR 0 _⟩
   have htk:Dr.take kind g r=if a.1=kind then(a.2,g,{ r with stk:=l }) else(0,{ g with err:=99 },r):=by
    unfold Dr.take Dr.wrong
    rw[hla]
    by_cases hk:a.1=kind<;>simp[hk,he]
   rw[htk]
   obtain⟨a1,a2⟩:=a
   simp only at *
   have hN:l.length<=1000:=by omega
   clear h htk hso k4 hla hs he hl hlen
   generalize l.length=N at *
   have w1:wrap64 ((N:Int)+1-1)=N:=by unfold wrap64;omega
   have w2:(0:Int)<=(N:Int):=by omega
   have w3:(N:Int)<=(cap:Int):=by omega
   by_cases hk:a1=kind
   ·rw[if_pos hk]
    subst hk
    clear HBAD
    go_enter Tryz.func85,Tryz.ntmps85
    go_wp2
    go_ret
    exact HGOOD.out
   ·rw[if_neg hk]
    have n1:(a1 == kind)=false:=by simpa using hk
    have n2:(a1 != kind)=true:=by simpa using hk
    clear HGOOD
    go_enter Tryz.func85,Tryz.ntmps85
    go_wp2
    go_ret
    exact HBAD.out
 ·rw[Dr.take_err he]
  have FIN:Hid (TakeOut w w B gq rq C (0,g,r) (.returned (.int .i64 0))):=hid ⟨rfl,⟨_,_,_,_,h⟩,Lo.refl _ _ _ _⟩
  have n1:(g.err == 0)=false:=by simpa using he
  have n2:(g.err != 0)=true:=by simpa using he
  generalize r.stk.length=N at *
  clear h
  go_enter Tryz.func85,Tryz.ntmps85
  go_wp2
  go_ret
  exact FIN.out
theorem nd_swap{X S T:List Nat}{k:Nat}(h:(X++(S++T)).Nodup)(h1:k ∉ X)(h2:k ∉ T):(X++([k]++T)).Nodup:=by
 rw[List.nodup_append]at h ⊢
 obtain⟨a1,a2,a3⟩:=h
 rw[List.nodup_append]at a2
 refine⟨a1,?_,?_⟩
 ·rw[List.nodup_append]
  exact⟨by simp,a2.2.1,fun a ha b hb e=>by simp at ha;subst ha;exact h2 (by rw[e];exact hb)⟩
 ·intro a ha b hb e
  rcases List.mem_append.1 hb with hb|hb
  ·simp only[List.mem_singleton]at hb;exact h1 (by rw[<-hb,<-e];exact ha)
  ·exact a3 a ha b (List.mem_append.2 (.inr hb)) e
section
variable {w w5:World} {B gq rq:Nat} {C:Cx} {g:Gg} {r:Rm} {hv sv pv kv v2:Value}
theorem Sx.named(h:Sx w B gq rq C g r hv sv pv kv):∀k,k∈gq::rq::bl [hv,sv,pv,kv]->k<w.heap.size:=by
 intro k hk
 have hb:∀{b e size n:Nat} {v:Value} {xs:List Value},w.ownsRow b e size v n xs->k∈v.ownBlock.toList->k<w.heap.size:=fun ho hm=>(ho.lt k (by simpa using hm)).2
 simp only[List.mem_cons,bl,List.flatMap_cons,List.flatMap_nil,List.append_nil,List.mem_append]at hk
 rcases hk with rfl|rfl|hk|hk|hk|hk
 ·exact h.gl
 ·exact h.rl
 ·exact hb h.ho hk
 ·exact hb h.so hk
 ·exact hb h.po hk
 ·exact hb h.ko hk
theorem Sx.appStk(h:Sx w B gq rq C g r hv sv pv kv){l:List (Int × Int)}(hg:w.grownBy w5 sv.ownBlock)(ho:w5.ownsRow B 192 2 v2 l.length (vc l))(hb:v2.ownBlock=sv.ownBlock\/∃k,v2.ownBlock=some k/\w.heap.size<=k):
  Sx (w5.setCell ⟨rq,0,none⟩ v2) B gq rq C g { r with stk:=l } hv v2 pv kv:=by
 have hnm:=h.named
 obtain⟨a1,a2⟩:=h.apart
 have hnd:(gq::rq::bl [hv,v2,pv,kv]).Nodup:=by
  rcases hb with hb|⟨k,hk,hkl⟩
  ·have e:bl [hv,v2,pv,kv]=bl [hv,sv,pv,kv]:=by simp[bl,hb]
   rw[e];exact h.nd
  ·have h0:((gq::rq::hv.ownBlock.toList)++(sv.ownBlock.toList++bl [pv,kv])).Nodup:=by simpa[bl]using h.nd
   have hX:k ∉ gq::rq::hv.ownBlock.toList:=fun hm=>by have:=hnm k (by simp only[List.mem_cons]at hm ⊢;rcases hm with hm|hm|hm;exact .inl hm;exact .inr (.inl hm);exact .inr (.inr (by simp[bl];left;simpa using hm)));omega
   have hT:k ∉ bl [pv,kv]:=fun hm=>by have:=hnm k (by simp only[List.mem_cons];exact .inr (.inr (by simp[bl]at hm ⊢;exact .inr (.inr hm))));omega
   have:=nd_swap h0 hX hT
   simpa[bl,hk]using this
 have hss:∀k,k<w.heap.size->k∈gq::rq::(hv.ownBlock.toList++bl [pv,kv])->w5.heap[k]?=w.heap[k]?:=fun k hkl hk=>hg.block k hkl (fun e=>by
  have h0:((gq::rq::hv.ownBlock.toList)++(sv.ownBlock.toList++bl [pv,kv])).Nodup:=by simpa[bl]using h.nd
  have hs:k∈sv.ownBlock.toList:=by rw[<-e];simp
  rw[List.nodup_append]at h0
  obtain⟨_,b2,b3⟩:=h0
  rw[List.nodup_append]at b2
  simp only[List.mem_cons,List.mem_append]at hk
  rcases hk with hk|hk|hk|hk
  ·exact b3 k (by simp[hk]) k (by simp[hs]) rfl
  ·exact b3 k (by simp[hk]) k (by simp[hs]) rfl
  ·exact b3 k (by simp only[List.mem_cons];exact .inr (.inr hk)) k (by simp only[List.mem_append];exact .inl hs) rfl
  ·exact b2.2.2 k hs k hk rfl)
 have hset:∀k,k≠rq->(w5.setCell ⟨rq,0,none⟩ v2).heap[k]?=w5.heap[k]?:=fun k hk=>Below.heap_setCell _ _ _ _ hk
 have keep:∀{b e size n:Nat} {v:Value} {xs:List Value},v∈[hv,pv,kv]->w.ownsRow b e size v n xs->(w5.setCell ⟨rq,0,none⟩ v2).ownsRow b e size v n xs:=fun {_ _ _ _ v _} hm ho=>owns_block ho fun k hk2=>by
  have hm4:v∈[hv,sv,pv,kv]:=by simp only[List.mem_cons,List.not_mem_nil,or_false]at hm ⊢;rcases hm with hm|hm|hm;exact .inl hm;exact .inr (.inr (.inl hm));exact .inr (.inr (.inr hm))
  rw[hset k (a2 k (mem_bl hm4 hk2)).2]
  refine hss k (ho.lt k hk2).2 ?_
  simp only[List.mem_cons,List.not_mem_nil,or_false]at hm
  simp only[List.mem_cons,List.mem_append]
  rcases hm with rfl|rfl|rfl
  ·exact .inr (.inr (.inl (by rw[hk2];simp)))
  ·exact .inr (.inr (.inr (mem_bl (v:=v) (by simp) hk2)))
  ·exact .inr (.inr (.inr (mem_bl (v:=v) (by simp) hk2)))
 have hrb:w5.heap[rq]?=w.heap[rq]?:=hss rq h.rl (by simp)
 have hgb:w5.heap[gq]?=w.heap[gq]?:=hss gq h.gl (by simp)
 have hv2r:∀k,v2.ownBlock=some k->k≠rq:=fun k hk e=>by
  have:=(List.nodup_cons.1 (List.nodup_cons.1 hnd).2).1
  exact this (by rw[<-e];exact mem_bl (v:=v2) (by simp) hk)
 refine⟨(hset gq a1).trans (hgb.trans h.gb),?_,keep (by simp) h.ho,owns_block ho fun k hk2=>hset k (hv2r k hk2),keep (by simp) h.po,keep (by simp) h.ko,h.lt,h.le,hnd,fun k hk=>⟨by have:=(h.pr k hk).1;have:=hg.size;simp;omega,fun hm=>?_⟩⟩
 rotate_left
 ·have hp:=h.pr k hk
  simp only[List.mem_cons,bl,List.flatMap_cons,List.flatMap_nil,List.append_nil,List.mem_append]at hp hm
  rcases hm with hm|hm|hm|hm|hm|hm
  ·exact hp.2 (.inl hm)
  ·exact hp.2 (.inr (.inl hm))
  ·exact hp.2 (.inr (.inr (.inl hm)))
  ·rcases hb with hb|⟨k',hk',hkl⟩
   ·exact hp.2 (.inr (.inr (.inr (.inl (by rw[<-hb];exact hm)))))
   ·rw[hk']at hm
    simp at hm
    omega
  ·exact hp.2 (.inr (.inr (.inr (.inr (.inl hm)))))
  ·exact hp.2 (.inr (.inr (.inr (.inr (.inr hm)))))
 have:=hrb.trans h.rb
 simp[World.setCell,Array.getElem?_modify,this]
end
theorem dput_any(w:World)(B gq rq:Nat)(C:Cx)(g:Gg)(r:Rm)(kind n:Int)(h:SO w B gq rq C g r)(hl:r.stk.length<=1000):
  Calls Tryz.prog 109 #[.pointer (some ⟨gq,0,none⟩),.pointer (some ⟨rq,0,none⟩),.int .i64 kind,.int .i64 n] w fun e w'=>e=.returned (.tuple #[])/\OpOut w w' B gq rq C (Dr.put kind n g r):=by
 obtain⟨j0,hj0,hy0,hy1,hy2⟩:=info_parts Tryz.info192
 obtain⟨hv,sv,pv,kv,h⟩:=h
 obtain⟨av,cap,hsv⟩:=owns_shape h.so
 subst hsv
 have c6:=h.c6
 have z6:=h.gz 6
 have r0:=h.r0
 by_cases he:g.err=0
 ·rw[he]at c6
  by_cases h16:16<=r.stk.length
  ·have e:Dr.put kind n g r=({ g with err:=99 },r):=by unfold Dr.put;rw[if_neg (by simpa using he),if_pos h16]
   rw[e]
   have FIN:Hid (OpOut w (w.setCell ⟨gq,6,none⟩ (.int .i64 99)) B gq rq C ({ g with err:=99 },r)):=hid ⟨⟨_,_,_,_,h.setErr 99⟩,h.loG 6 _⟩
   generalize r.stk.length=N at *
   clear h e he
   go_enter Tryz.func109,Tryz.ntmps109
   go_wp2
   refine bodyPost_ret (results_none rfl _ _ _) rfl ?_
   exact⟨rfl,FIN.out⟩
  ·have e:Dr.put kind n g r=(g,{ r with stk:=r.stk++[(kind,n)] }):=by unfold Dr.put;rw[if_neg (by simpa using he),if_neg h16]
   rw[e]
   have al:=(Below.refl w.heap.size w).alloc (Nat.le_refl _) (.cells #[.int .i64 kind,.int .i64 n] 192)
   have hA:=h.below al
   have hBw:B<=w.heap.size:=Nat.le_of_lt (Nat.lt_of_le_of_lt h.le h.rl)
   have FIN:Hid (∀v2 w5,w5.ownsRow B 192 2 v2 (r.stk.length+1) (vc r.stk++[.int .i64 kind,.int .i64 n])->(w.alloc (.cells #[.int .i64 kind,.int .i64 n] 192)).grownBy w5 (Value.slice av r.stk.length cap).ownBlock->(v2.ownBlock=(Value.slice av r.stk.length cap).ownBlock\/v2.ownBlock=some (w.heap.size+1))->OpOut w (w5.setCell ⟨rq,0,none⟩ v2) B gq rq C (g,{ r with stk:=r.stk++[(kind,n)] })):=hid fun v2 w5 ho hg hb=>by
    refine⟨⟨_,_,_,_,hA.appStk (l:=r.stk++[(kind,n)]) hg (by rw[vc_snoc,List.length_append];exact ho) (hb.imp id fun hh=>⟨_,hh,by simp⟩)⟩,?_⟩
    have l1:Lo B gq C.P w (w.alloc (.cells #[.int .i64 kind,.int .i64 n] 192)):=h.loB al
    have l2:Lo B gq C.P (w.alloc (.cells #[.int .i64 kind,.int .i64 n] 192)) w5:=Lo.grown hg (by simp;omega) (fun k hk=>⟨.inr (h.so.lt k hk).1,h.npb (by simp) hk⟩) (fun k hk=>(hA.pr k hk).1)
    exact(l1.trans l2).trans (Lo.set (p:=⟨rq,0,none⟩) (.inr h.le) h.npr _)
   have oA:=hA.so
   have rA:∀w5,(w.alloc (.cells #[.int .i64 kind,.int .i64 n] 192)).grownBy w5 (Value.slice av r.stk.length cap).ownBlock->w5.cell? ⟨rq,0,none⟩=some (.slice av r.stk.length cap)/\w5.frozen? ⟨rq,0,none⟩=false:=fun w5 hg=>by
    have hne:some rq≠(Value.slice av r.stk.length cap).ownBlock:=fun e=>(h.apart.2 rq (mem_bl (v:=.slice av r.stk.length cap) (by simp) e.symm)).2 rfl
    have hbk:=(hg.block rq (by have:=h.rl;simp;omega) hne).trans hA.rb
    exact⟨by simp[World.cell?,hbk],by simp[World.frozen?,hbk]⟩
   have HRA:=hid rA
   clear rA h hA e he
   have hN:r.stk.length<16:=by omega
   generalize vc r.stk=XS at *
   generalize r.stk++[(kind,n)]=RS at *
   generalize r.stk.length=N at *
   go_enter Tryz.func109,Tryz.ntmps109
   go_wp2_with (at_builtin;refine wpList_append_keep rfl _ _ 141 rfl B 192 j0 (.agg #[.int .i64 0,.int .i64 0]) 2 16 Tryz.underlying141 hj0 hy0 hy1 hy2 rfl (by decide) _ _ _ rfl oA ⟨w.heap.size,0,none⟩ 1 1 [.int .i64 kind,.int .i64 n] rfl rfl (cell_two _ _ _ _) ?t2 ?t3 ?t4 ?t5 (by decide) ?_)
   case t2=>intro u hu;simp at hu;rcases hu with rfl|rfl<;>rfl
   case t3=>unfold maxLen;omega
   case t4=>omega
   case t5=>simp only[World.size_alloc];omega
   intro v2 w5 hv5 hg5 _ hl5
   obtain⟨a2,cc2,rfl⟩:=owns_shape hv5
   obtain⟨y0,y1⟩:=HRA.out w5 hg5
   have FF:=hid (FIN.out _ _ hv5 hg5 hl5)
   clear FIN HRA hv5 hg5 hl5 oA
   go_wp2
   go_end0
   exact⟨rfl,FF.out⟩
 ·rw[Dr.put_err he]
  have FIN:Hid (OpOut w w B gq rq C (g,r)):=hid ⟨⟨_,_,_,_,h⟩,Lo.refl _ _ _ _⟩
  have n1:(g.err == 0)=false:=by simpa using he
  have n2:(g.err != 0)=true:=by simpa using he
  clear h
  go_enter Tryz.func109,Tryz.ntmps109
  go_wp2
  refine bodyPost_ret (results_none rfl _ _ _) rfl ?_
  exact⟨rfl,FIN.out⟩
end Dw
namespace Dw
open Dr (Gg Rm)
theorem take_len(k:Int)(g:Gg)(r:Rm):(Dr.take k g r).2.2.stk.length<=r.stk.length:=by
 unfold Dr.take
 split
 ·simp
 ·exact Nat.le_refl _
theorem put_len(k n:Int)(g:Gg)(r:Rm)(h:r.stk.length<=16):(Dr.put k n g r).2.stk.length<=16:=by
 unfold Dr.put
 split
 ·exact h
 ·split
  ·exact h
  ·simp;omega
theorem wrong_dec{P:Prop}[Decidable P](e:Int)(g:Gg):Dr.wrong (decide P=true) e g=Dr.wrong P e g:=by
 unfold Dr.wrong;simp only[decide_eq_true_eq]
theorem OpOut.trans{w w1 w2:World}{B gq rq:Nat}{C:Cx}{p q:Gg × Rm}(h:OpOut w w1 B gq rq C p)(k:OpOut w1 w2 B gq rq C q):OpOut w w2 B gq rq C q:=⟨k.1,h.2.trans k.2⟩
theorem dwrong_any(w:World)(B gq rq:Nat)(C:Cx)(g:Gg)(r:Rm)(b:Bool)(x:Int)(h:SO w B gq rq C g r):
  Calls Tryz.prog 108 #[.pointer (some ⟨gq,0,none⟩),.bool b,.int .i64 x] w fun e w'=>e=.returned (.tuple #[])/\OpOut w w' B gq rq C (Dr.wrong (b=true) x g,r):=by
 obtain⟨hv,sv,pv,kv,h⟩:=h
 refine(wrong_any w B gq rq C g r hv sv pv kv b x h).mono ?_
 rintro e w' ⟨rfl,h1,h2⟩
 exact⟨rfl,⟨_,_,_,_,h1⟩,h.loW h2⟩
theorem dtwo_any(w:World)(B gq rq:Nat)(C:Cx)(g:Gg)(r:Rm)(op:Int)(h:SO w B gq rq C g r)(hl:r.stk.length<=16)(hop:op=2\/op=3\/op=4\/op=5):
  Calls Tryz.prog 110 #[.pointer (some ⟨gq,0,none⟩),.pointer (some ⟨rq,0,none⟩),.int .i64 op] w fun e w'=>e=.returned (.tuple #[])/\OpOut w w' B gq rq C (Dr.two op g r):=by
 have T1:=hid (dtake_any w B gq rq C g r 0 h (by omega))
 have l1:=take_len 0 g r
 have HD:Hid (Dr.two op g r=_):=hid (by unfold Dr.two;rfl)
 generalize Dr.take 0 g r=b at *
 obtain⟨bn,bg,br⟩:=b
 simp only at *
 have T2:=hid fun(W:World) (hW:SO W B gq rq C bg br)=>dtake_any W B gq rq C bg br 0 hW (by omega)
 have l2:=take_len 0 bg br
 generalize Dr.take 0 bg br=a at *
 obtain⟨an,ag,ar⟩:=a
 simp only at *
 clear h
 rcases hop with rfl|rfl|rfl|rfl
 ·have P:=hid fun(W:World) (G:Gg) (hW:SO W B gq rq C G ar)=>dput_any W B gq rq C G ar 0 (wrap64 (an+bn)) hW (by omega)
  simp only[if_true]at HD
  go_enter Tryz.func110,Tryz.ntmps110
  go_wp2_with fail
  refine T1.out.mono ?_
  rintro e w1 ⟨rfl,o1⟩
  go_wp2_with fail
  refine(T2.out _ o1.1).mono ?_
  rintro e w2 ⟨rfl,o2⟩
  clear T1 T2
  go_wp2_with fail
  refine(dwrong_any _ B gq rq C ag ar _ 6 o2.1).mono ?_
  rintro e w3 ⟨rfl,o3⟩
  rw[wrong_dec]at o3
  go_wp2_with fail
  refine(P.out _ _ o3.1).mono ?_
  rintro e w4 ⟨rfl,o4⟩
  have FF:=hid (((o1.trans o2).trans o3).trans o4)
  clear o1 o2 o3 o4 P
  go_wp2
  go_end0
  rw[HD.out]
  exact⟨rfl,FF.out⟩
 ·have P:=hid fun(W:World) (G:Gg) (hW:SO W B gq rq C G ar)=>dput_any W B gq rq C G ar 0 (wrap64 (an-bn)) hW (by omega)
  simp only[show ¬((3:Int)=2) from by decide,if_false,if_true]at HD
  go_enter Tryz.func110,Tryz.ntmps110
  go_wp2_with fail
  refine T1.out.mono ?_
  rintro e w1 ⟨rfl,o1⟩
  go_wp2_with fail
  refine(T2.out _ o1.1).mono ?_
  rintro e w2 ⟨rfl,o2⟩
  clear T1 T2
  go_wp2_with fail
  refine(dwrong_any _ B gq rq C ag ar _ 6 o2.1).mono ?_
  rintro e w3 ⟨rfl,o3⟩
  rw[wrong_dec]at o3
  go_wp2_with fail
  refine(P.out _ _ o3.1).mono ?_
  rintro e w4 ⟨rfl,o4⟩
  have FF:=hid (((o1.trans o2).trans o3).trans o4)
  clear o1 o2 o3 o4 P
  go_wp2
  go_end0
  rw[HD.out]
  exact⟨rfl,FF.out⟩
 ·simp only[show ¬((4:Int)=2) from by decide,show ¬((4:Int)=3) from by decide,if_false,if_true]at HD
  by_cases hlt:an<bn
  ·rw[if_pos hlt]at HD
   have P:=hid fun(W:World) (G:Gg) (hW:SO W B gq rq C G ar)=>dput_any W B gq rq C G ar 0 1 hW (by omega)
   go_enter Tryz.func110,Tryz.ntmps110
   go_wp2_with fail
   refine T1.out.mono ?_
   rintro e w1 ⟨rfl,o1⟩
   go_wp2_with fail
   refine(T2.out _ o1.1).mono ?_
   rintro e w2 ⟨rfl,o2⟩
   clear T1 T2
   go_wp2_with fail
   refine(P.out _ _ o2.1).mono ?_
   rintro e w4 ⟨rfl,o4⟩
   have FF:=hid ((o1.trans o2).trans o4)
   clear o1 o2 o4 P
   go_wp2
   go_end0
   rw[HD.out]
   exact⟨rfl,FF.out⟩
  ·rw[if_neg hlt]at HD
   have P:=hid fun(W:World) (G:Gg) (hW:SO W B gq rq C G ar)=>dput_any W B gq rq C G ar 0 0 hW (by omega)
   go_enter Tryz.func110,Tryz.ntmps110
   go_wp2_with fail
   refine T1.out.mono ?_
   rintro e w1 ⟨rfl,o1⟩
   go_wp2_with fail
   refine(T2.out _ o1.1).mono ?_
   rintro e w2 ⟨rfl,o2⟩
   clear T1 T2
   go_wp2_with fail
   refine(P.out _ _ o2.1).mono ?_
   rintro e w4 ⟨rfl,o4⟩
   have FF:=hid ((o1.trans o2).trans o4)
   clear o1 o2 o4 P
   go_wp2
   go_end0
   rw[HD.out]
   exact⟨rfl,FF.out⟩
 ·simp only[show ¬((5:Int)=2) from by decide,show ¬((5:Int)=3) from by decide,show ¬((5:Int)=4) from by decide,if_false]at HD
  by_cases hlt:an=bn
  ·rw[if_pos hlt]at HD
   have P:=hid fun(W:World) (G:Gg) (hW:SO W B gq rq C G ar)=>dput_any W B gq rq C G ar 0 1 hW (by omega)
   subst hlt
   go_enter Tryz.func110,Tryz.ntmps110
   go_wp2_with fail
   refine T1.out.mono ?_
   rintro e w1 ⟨rfl,o1⟩
   go_wp2_with fail
   refine(T2.out _ o1.1).mono ?_
   rintro e w2 ⟨rfl,o2⟩
   clear T1 T2
   go_wp2_with fail
   refine(P.out _ _ o2.1).mono ?_
   rintro e w4 ⟨rfl,o4⟩
   have FF:=hid ((o1.trans o2).trans o4)
   clear o1 o2 o4 P
   go_wp2
   go_end0
   rw[HD.out]
   exact⟨rfl,FF.out⟩
  ·rw[if_neg hlt]at HD
   have n1:(an == bn)=false:=by simpa using hlt
   have P:=hid fun(W:World) (G:Gg) (hW:SO W B gq rq C G ar)=>dput_any W B gq rq C G ar 0 0 hW (by omega)
   go_enter Tryz.func110,Tryz.ntmps110
   go_wp2_with fail
   refine T1.out.mono ?_
   rintro e w1 ⟨rfl,o1⟩
   go_wp2_with fail
   refine(T2.out _ o1.1).mono ?_
   rintro e w2 ⟨rfl,o2⟩
   clear T1 T2
   go_wp2_with fail
   refine(P.out _ _ o2.1).mono ?_
   rintro e w4 ⟨rfl,o4⟩
   have FF:=hid ((o1.trans o2).trans o4)
   clear o1 o2 o4 P
   go_wp2
   go_end0
   rw[HD.out]
   exact⟨rfl,FF.out⟩
end Dw
namespace Dw
open Dr (Gg Rm)
theorem Tryz.info145:(Tryz.prog.info? 145).map (fun i=>(i.zero,i.size,i.bytes))=some (some (.agg #[.int .i64 0,.int .i64 0,.int .i64 0]),3,24):=by kernel_rfl
def noHd:Dr.Hd:=⟨0,0,0⟩
theorem hc_snoc(l:List Dr.Hd)(a:Dr.Hd):hc (l++[a])=hc l++[.int .i64 a.who,.int .i64 a.kind,.int .i64 a.n]:=by simp[hc]
theorem hc_get:∀(l:List Dr.Hd) (i:Nat),i<l.length->(hc l)[i*3]?=some (.int .i64 (l.getD i noHd).who)/\(hc l)[i*3+1]?=some (.int .i64 (l.getD i noHd).kind)/\(hc l)[i*3+2]?=some (.int .i64 (l.getD i noHd).n)
 | [],i,h=>absurd h (by simp)
 | a::l,0,_=>⟨by simp[hc],by simp[hc],by simp[hc]⟩
 | a::l,i+1,h=>by
  have ih:=hc_get l i (by simpa using h)
  have e:hc (a::l)=[.int .i64 a.who,.int .i64 a.kind,.int .i64 a.n]++hc l:=by simp[hc]
  rw[e]
  refine⟨?_,?_,?_⟩
  ·rw[List.getElem?_append_right (by simp;omega)];simp only[List.length_cons,List.length_nil];rw[show(i+1)*3-(0+1+1+1)=i*3 from by omega];simpa using ih.1
  ·rw[List.getElem?_append_right (by simp;omega)];simp only[List.length_cons,List.length_nil];rw[show(i+1)*3+1-(0+1+1+1)=i*3+1 from by omega];simpa using ih.2.1
  ·rw[List.getElem?_append_right (by simp;omega)];simp only[List.length_cons,List.length_nil];rw[show(i+1)*3+2-(0+1+1+1)=i*3+2 from by omega];simpa using ih.2.2
def HsR(w:World)(B:Nat)(v:Value)(l:List Dr.Hd):Prop:=
 ∃ao cap b,v=.slice ao l.length cap/\(0<l.length->ao=some ⟨b,0,none⟩/\b<B)/\∀j,j<l.length->
  w.cell? ⟨b,j*3,none⟩=some (.int .i64 (l.getD j noHd).who)/\w.cell? ⟨b,j*3+1,none⟩=some (.int .i64 (l.getD j noHd).kind)/\w.cell? ⟨b,j*3+2,none⟩=some (.int .i64 (l.getD j noHd).n)
theorem owns_hs{w:World}{B:Nat}{v:Value}{l:List Dr.Hd}(h:w.ownsRow B 145 3 v l.length (hc l)):HsR w w.heap.size v l:=by
 have h':=h
 rcases h.2 with ⟨rfl,hn⟩|⟨g',cap',cur,rfl,_,hg,_⟩
 ·have:l=[]:=List.eq_nil_of_length_eq_zero hn
  subst this
  exact⟨none,0,0,rfl,fun h=>absurd h (by simp),fun j hj=>absurd hj (by simp)⟩
 ·refine⟨some ⟨g',0,none⟩,cap',g',rfl,fun _=>⟨rfl,(Array.getElem?_eq_some_iff.1 hg).1⟩,fun j hj=>?_⟩
  obtain⟨g0,g1,g2⟩:=hc_get l j hj
  have k0:=h'.cells (g:=g') rfl _ _ g0
  have k1:=h'.cells (g:=g') rfl _ _ g1
  have k2:=h'.cells (g:=g') rfl _ _ g2
  rw[addr_add]at k0 k1 k2
  exact⟨by simpa using k0,by simpa using k1,by simpa using k2⟩
theorem findN_none{who kind:Int}:∀{l:List Dr.Hd},(∀j,j<l.length->¬((l.getD j noHd).who=who/\(l.getD j noHd).kind=kind))->Dr.findN who kind l=none
 | [],_=>rfl
 | a::l,h=>by
  unfold Dr.findN
  rw[if_neg (by simpa using h 0 (by simp)),findN_none (l:=l) fun j hj=>by simpa using h (j+1) (by simpa using hj)]
  rfl
theorem findN_at{who kind:Int}:∀{l:List Dr.Hd} {k:Nat},k<l.length->(∀j,j<k->¬((l.getD j noHd).who=who/\(l.getD j noHd).kind=kind))->((l.getD k noHd).who=who/\(l.getD k noHd).kind=kind)->Dr.findN who kind l=some k
 | [],k,hk,_,_=>absurd hk (by simp)
 | a::l,0,_,_,h=>by unfold Dr.findN;rw[if_pos (by simpa using h)]
 | a::l,k+1,hk,h1,h2=>by
  unfold Dr.findN
  rw[if_neg (by simpa using h1 0 (by omega)),findN_at (l:=l) (k:=k) (by simpa using hk) (fun j hj=>by simpa using h1 (j+1) (by omega)) (by simpa using h2)]
  rfl
theorem find_any(l:List Dr.Hd)(v:Value)(who kind:Int)(w:World)(h:HsR w w.heap.size v l)(hl:l.length<=1000000):
  Calls Tryz.prog 64 #[v,.int .i64 who,.int .i64 kind] w fun e w'=>e=.returned (.int .i64 (Dr.find l who kind))/\Below w.heap.size w w':=by
 obtain⟨ao,cap,b,rfl,h1,h2⟩:=h
 have H1:=hid h1
 have H2:=hid h2
 have b0:=Below.refl w.heap.size w
 clear h1 h2
 have HF:Hid (∀k,Dr.findN who kind l=some k->Dr.find l who kind=k):=hid fun k hk=>by unfold Dr.find;rw[hk]
 have HN:Hid (Dr.findN who kind l=none->Dr.find l who kind = -1):=hid fun hk=>by unfold Dr.find;rw[hk]
 generalize Dr.find l who kind=R at *
 go_enter Tryz.func64,Tryz.ntmps64
 go_wp2_with fail
 go_loopw [7] (fun i wr=>∃k:Nat,k<=l.length/\i=.int .i64 k/\(∀j,j<k->¬((l.getD j noHd).who=who/\(l.getD j noHd).kind=kind))/\Below w.heap.size w wr) (fun i _=>l.length-(intOf i).toNat)
 case atStart=>exact⟨0,Nat.zero_le _,rfl,fun j hj=>absurd hj (by omega),b0⟩
 case round=>
  clear b0
  obtain⟨k,hk,rfl,hall,bk⟩:=hrel
  have HALL:=hid hall
  clear hall
  by_cases hlt:k<l.length
  ·obtain⟨rfl,hbb⟩:=H1.out (by omega)
   obtain⟨c0,c1,_⟩:=H2.out k hlt
   have d0:=(bk.cell (p:=⟨b,k*3,none⟩) hbb).trans c0
   have d1:=(bk.cell (p:=⟨b,k*3+1,none⟩) hbb).trans c1
   clear c0 c1
   by_cases hm:(l.getD k noHd).who=who/\(l.getD k noHd).kind=kind
   ·have FIN:Hid (R=k):=hid (HF.out k (findN_at hlt HALL.out hm))
    rw[hm.1]at d0
    rw[hm.2]at d1
    clear HF HN HALL hm
    go_wp2
    go_ret
    rw[FIN.out]
    exact⟨rfl,bk⟩
   ·have HALL2:Hid (∀j,j<k+1->¬((l.getD j noHd).who=who/\(l.getD j noHd).kind=kind)):=hid fun j hj=>by
     by_cases e:j=k
     ·subst e;exact hm
     ·exact HALL.out j (by omega)
    clear HALL HF HN
    generalize (l.getD k noHd).who=W0 at *
    generalize (l.getD k noHd).kind=K0 at *
    by_cases hw:W0=who
    ·have hk2:K0≠kind:=fun e=>hm ⟨hw,e⟩
     subst hw
     have n1:(K0 == kind)=false:=by simpa using hk2
     clear hm
     go_wp2
     go_roundw
     case rel=>exact⟨k+1,hlt,by go_num,HALL2.out,bk⟩
     case measure=>simp[intOf];omega
    ·have n1:(W0 == who)=false:=by simpa using hw
     clear hm
     go_wp2
     go_roundw
     case rel=>exact⟨k+1,hlt,by go_num,HALL2.out,bk⟩
     case measure=>simp[intOf];omega
  ·have hkl:k=l.length:=by omega
   subst hkl
   have FIN:Hid (R = -1):=hid (HN.out (findN_none HALL.out))
   clear HALL HF HN
   go_wp2
   go_ret
   rw[FIN.out]
   exact⟨rfl,bk⟩
end Dw
namespace Dw
open Dr (Gg Rm)
theorem cell_three(w:World)(a b c:Value)(t:TypeId):∀j u,[a,b,c][j]?=some u->(w.alloc (.cells #[a,b,c] t)).cell? ((⟨w.heap.size,0,none⟩:Addr).add j)=some u:=by
 intro j u hu
 have hb:=heap_alloc_new w (.cells #[a,b,c] t)
 rw[addr_add]
 unfold World.cell?
 simp only[hb]
 match j,hu with
 | 0,hu=>simpa using hu
 | 1,hu=>simpa using hu
 | 2,hu=>simpa using hu
 | j+3,hu=>simp at hu
theorem without_step(l:List Dr.Hd)(i:Int){k:Nat}(hk:k<l.length):Dr.without (l.take (k+1)) i=if(k:Int)=i then Dr.without (l.take k) i else Dr.without (l.take k) i++[l.getD k noHd]:=by
 have e:l.take (k+1)=l.take k++[l.getD k noHd]:=by
  rw[List.take_add_one,List.getElem?_eq_getElem hk,List.getD_eq_getElem?_getD,List.getElem?_eq_getElem hk];rfl
 have hl:(l.take k).length=k:=by simp;omega
 rw[e]
 unfold Dr.without
 by_cases hi:i<0
 ·rw[if_pos hi,if_pos hi,if_neg (by omega)]
 ·rw[if_neg hi,if_neg hi]
  by_cases hki:(k:Int)=i
  ·rw[if_pos hki,List.eraseIdx_append_of_length_le (by omega),show i.toNat-(l.take k).length=0 from by omega,List.eraseIdx_of_length_le (l:=l.take k) (by omega)]
   simp
  ·rw[if_neg hki]
   by_cases hlt:i.toNat<k
   ·rw[List.eraseIdx_append_of_lt_length (by omega)]
   ·rw[List.eraseIdx_append_of_length_le (by omega),List.eraseIdx_of_length_le (l:=l.take k) (by omega)]
    obtain⟨d,hd⟩:∃d,i.toNat-(l.take k).length=d+1:=⟨i.toNat-k-1,by omega⟩
    rw[hd]
    simp
theorem without_len(l:List Dr.Hd)(i:Int):(Dr.without l i).length<=l.length:=by
 unfold Dr.without
 split
 ·exact Nat.le_refl _
 ·rw[List.length_eraseIdx];split<;>omega
theorem without_any(l:List Dr.Hd)(v:Value)(i:Int)(w:World)(h:HsR w w.heap.size v l)(hl:l.length<=1000000):
  Calls Tryz.prog 61 #[v,.int .i64 i] w fun e w'=>∃v',e=.returned v'/\w'.ownsRow w.heap.size 145 3 v' (Dr.without l i).length (hc (Dr.without l i))/\Below w.heap.size w w':=by
 obtain⟨j0,hj0,hy0,hy1,hy2⟩:=info_parts Tryz.info145
 obtain⟨ao,cap,b,rfl,h1,h2⟩:=h
 have H1:=hid h1
 have H2:=hid h2
 have b0:=Below.refl w.heap.size w
 clear h1 h2
 go_enter Tryz.func61,Tryz.ntmps61
 go_wp2_with fail
 go_loopw [5,6] (fun o x wr=>∃(k:Nat),k<=l.length/\x=.int .i64 k/\wr.ownsRow w.heap.size 145 3 o (Dr.without (l.take k) i).length (hc (Dr.without (l.take k) i))/\Below w.heap.size w wr) (fun _ x _=>l.length-(intOf x).toNat)
 case atStart=>exact⟨0,Nat.zero_le _,rfl,by simp[Dr.without,hc];exact World.ownsRow_nil _ _ _ _,b0⟩
 case round=>
  clear b0
  obtain⟨k,hk,rfl,ho,bk⟩:=hrel
  by_cases hlt:k<l.length
  ·obtain⟨rfl,hbb⟩:=H1.out (by omega)
   obtain⟨c0,c1,c2⟩:=H2.out k hlt
   have d0:=(bk.cell (p:=⟨b,k*3,none⟩) hbb).trans c0
   have d1:=(bk.cell (p:=⟨b,k*3+1,none⟩) hbb).trans c1
   have d2:=(bk.cell (p:=⟨b,k*3+2,none⟩) hbb).trans c2
   have hst:=without_step l i hlt
   have hwl:=without_len (l.take k) i
   have htl:(l.take k).length<=1000000:=by simp;omega
   obtain⟨ao2,cap2,rfl⟩:=owns_shape ho
   clear c0 c1 c2
   generalize l.getD k noHd=X at *
   obtain⟨xw,xk,xn⟩:=X
   simp only at *
   by_cases hki:(k:Int)=i
   ·rw[if_pos hki]at hst
    have HO:Hid (wr.ownsRow w.heap.size 145 3 _ (Dr.without (l.take (k+1)) i).length (hc (Dr.without (l.take (k+1)) i))):=hid (by rw[hst];exact ho)
    generalize (Dr.without (l.take k) i).length=NN at *
    clear ho hst
    subst hki
    go_wp2
    go_roundw
    case rel=>exact⟨k+1,hlt,by go_num,HO.out,bk⟩
    case measure=>simp[intOf];omega
   ·rw[if_neg hki]at hst
    have n1:((k:Int) == i)=false:=by simpa using hki
    have n2:((k:Int) != i)=true:=by simpa using hki
    have HST:Hid (∀(W:World) (o:Value),W.ownsRow w.heap.size 145 3 o ((Dr.without (l.take k) i).length+1) (hc (Dr.without (l.take k) i)++[.int .i64 xw,.int .i64 xk,.int .i64 xn])->W.ownsRow w.heap.size 145 3 o (Dr.without (l.take (k+1)) i).length (hc (Dr.without (l.take (k+1)) i))):=hid fun W o hh=>by
     rw[hst,hc_snoc,List.length_append];exact hh
    have oA:=ho.alloc (.cells #[.int .i64 xw,.int .i64 xk,.int .i64 xn] 145)
    have bA:=bk.alloc bk.size (.cells #[.int .i64 xw,.int .i64 xk,.int .i64 xn] 145)
    have hsz:=bk.size
    clear hst
    generalize hc (Dr.without (l.take k) i)=XS at *
    generalize (Dr.without (l.take k) i).length=NN at *
    have hlo:∀g,(Value.slice ao2 NN cap2).ownBlock=some g->w.heap.size<=g:=fun g hg=>(ho.lt g hg).1
    clear ho bk
    go_wp2_with (at_builtin;refine wpList_append_keep rfl _ _ 109 rfl w.heap.size 145 j0 (.agg #[.int .i64 0,.int .i64 0,.int .i64 0]) 3 24 Tryz.underlying109 hj0 hy0 hy1 hy2 rfl (by decide) _ _ _ rfl oA ⟨wr.heap.size,0,none⟩ 1 1 [.int .i64 xw,.int .i64 xk,.int .i64 xn] rfl rfl (cell_three _ _ _ _ _) ?t2 ?t3 ?t4 ?t5 (by decide) ?_)
    case t2=>intro u hu;simp at hu;rcases hu with rfl|rfl|rfl<;>rfl
    case t3=>unfold maxLen;omega
    case t4=>omega
    case t5=>simp only[World.size_alloc];omega
    intro v2 w5 hv5 hg5 _ _
    obtain⟨a2,cc2,rfl⟩:=owns_shape hv5
    have HO:=hid (HST.out w5 _ hv5)
    have b5:=bA.grown hg5 (by simp only[World.size_alloc];omega) (fun g hg=>hlo g hg)
    clear hv5 hg5 oA bA HST hlo
    go_wp2
    go_roundw
    case rel=>exact⟨k+1,hlt,by go_num,HO.out,b5⟩
    case measure=>simp[intOf];omega
  ·have hkl:k=l.length:=by omega
   subst hkl
   rw[List.take_length]at ho
   obtain⟨ao2,cap2,rfl⟩:=owns_shape ho
   have FIN:=hid (And.intro ho bk)
   clear ho bk
   go_wp2
   go_ret
   exact⟨_,rfl,FIN.out⟩
end Dw
end Go.Proofs.YtjamgmbdilkbcaaGreat
