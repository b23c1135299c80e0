import Derived.Test.YtjamgmbdilkbcaaGreatLotAll33
import Derived.Test.YtjamgmbdilkbcaaGreatLotAll30
import Derived.Test.YtjamgmbdilkbcaaGreatLotAll40
import Derived.Test.YtjamgmbdilkbcaaGreatLotAll34
set_option maxHeartbeats 4000000
set_option maxRecDepth 100000
namespace Go.Proofs.YtjamgmbdilkbcaaGreat
open Go.RowKit Mc
namespace Dr
theorem nodup_le:∀(n:Nat) (l:List Nat),l.Nodup->(∀x∈l,x<n)->l.length<=n
 | 0,[],_,_=>Nat.le_refl _
 | 0,a::l,_,h=>absurd (h a (by simp)) (by omega)
 | n+1,l,hd,h=>by
  by_cases hn:n∈l
  ·have h1:=nodup_le n (l.erase n) (hd.erase n) (fun x hx=>by
    have h2:=hd.mem_erase_iff.1 hx
    have h3:=h x h2.2
    have h4:=h2.1
    omega)
   rw[List.length_erase_of_mem hn]at h1
   omega
  ·have h1:=nodup_le n l hd (fun x hx=>by
    have h3:=h x hx
    have h4:x≠n:=fun e=>hn (by rw[<-e];exact hx)
    omega)
   omega
theorem at_lt{w k:Int}(h:setOk w k):at_ w k<48:=by
 obtain⟨h1,h2⟩:=h
 unfold isAcc at h1
 unfold isKd at h2
 simp only[decide_eq_true_eq]at h1 h2
 unfold at_
 omega
theorem HA.len{l:List Hd}{A:Nat->Bool × Int}(h:HA l A):l.length<=48:=by
 have h1:(l.map fun x=>at_ x.who x.kind).Nodup:=by
  unfold List.Nodup
  rw[List.pairwise_map]
  refine List.Pairwise.imp_of_mem ?_ h.nodup
  intro a b ha hb hne e
  exact hne (at_inj (h.rng a ha) (h.rng b hb) e)
 have:=nodup_le 48 _ h1 (fun x hx=>by
  obtain⟨a,ha,rfl⟩:=List.mem_map.1 hx
  exact at_lt (h.rng a ha))
 simpa using this
theorem HA.congr{l:List Hd}{A B:Nat->Bool × Int}(h:HA l A)(he:∀j,j<48->A j=B j):HA l B:=
 ⟨fun w k hok=>by rw[<-he _ (at_lt hok)];exact h.look w k hok,h.nodup,h.num,h.rng⟩
def Says(m:Pu.Md)(l:List Hd)(b:ByteArray)(who gas:Int)(l':List Hd)(e c u:Int):Prop:=
 ((who<0\/8<=who\/gas<0\/10000<gas)/\l'=l/\e=4/\c=0/\u=0)\/
 (¬(who<0\/8<=who\/gas<0\/10000<gas)/\¬(readScript b m.kinds.length m.funcs.length).2=0/\l'=l/\e=(readScript b m.kinds.length m.funcs.length).2/\c=0/\u=0)\/
 (¬(who<0\/8<=who\/gas<0\/10000<gas)/\(readScript b m.kinds.length m.funcs.length).2=0/\¬Fl.Sound m (readScript b m.kinds.length m.funcs.length).1/\l'=l/\e=3/\c=0/\u=0)\/
 (¬(who<0\/8<=who\/gas<0\/10000<gas)/\(readScript b m.kinds.length m.funcs.length).2=0/\Fl.Sound m (readScript b m.kinds.length m.funcs.length).1/\
  l'=(if(run m (readScript b m.kinds.length m.funcs.length).1 l who gas (gas.toNat+1)).err=0 then(run m (readScript b m.kinds.length m.funcs.length).1 l who gas (gas.toNat+1)).holds else l)/\
  e=(run m (readScript b m.kinds.length m.funcs.length).1 l who gas (gas.toNat+1)).err/\c=(run m (readScript b m.kinds.length m.funcs.length).1 l who gas (gas.toNat+1)).code/\u=(run m (readScript b m.kinds.length m.funcs.length).1 l who gas (gas.toNat+1)).used)
theorem script_params{b:ByteArray}{ki fu:Int}(h:(readScript b ki fu).2=0):(readScript b ki fu).1.params.length=0:=by
 unfold readScript at h ⊢
 split at h
 ·exact absurd h (by decide)
 rename_i hl
 split at h
 ·exact absurd h (by decide)
 rename_i hb
 rw[if_neg hl,if_neg hb]
 have h2:isScript (Pu.func b ki fu (0,false)).1=true:=by
  cases hx:isScript (Pu.func b ki fu (0,false)).1 with
  | true=>rfl
  | false=>exact absurd (.inr hx) hb
 unfold isScript at h2
 simp only[Bool.and_eq_true,decide_eq_true_eq]at h2
 exact h2.1.1
theorem says_same{m:Pu.Md}{l l':List Hd}{A A':Nat->Bool × Int}{b:ByteArray}{who gas e c u e' c' u':Int}(hmd:Pu.isMd m=true)(hgd:∀j,j<m.funcs.length->Fl.Sound m (m.funcs.getD j ⟨[],[],[],[]⟩))(hA:HA l A)(hp:RunSays m A b who gas A' e c u)(hd:Says m l b who gas l' e' c' u'):e=e'/\c=c'/\u=u'/\HA l' A':=by
 rcases hp with ⟨h1,rfl,rfl,rfl,rfl⟩|⟨h1,h2,rfl,rfl,rfl,rfl⟩|⟨h1,h2,h3,rfl,rfl,rfl,rfl⟩|⟨h1,h2,h3,h4,h5,h6,h7⟩
 ·rcases hd with ⟨_,rfl,rfl,rfl,rfl⟩|⟨k,_⟩|⟨k,_⟩|⟨k,_⟩
  ·exact⟨rfl,rfl,rfl,hA⟩
  ·exact absurd h1 k
  ·exact absurd h1 k
  ·exact absurd h1 k
 ·rcases hd with ⟨k,_⟩|⟨_,_,rfl,rfl,rfl,rfl⟩|⟨_,k,_⟩|⟨_,k,_⟩
  ·exact absurd k h1
  ·exact⟨rfl,rfl,rfl,hA⟩
  ·exact absurd k h2
  ·exact absurd k h2
 ·rcases hd with ⟨k,_⟩|⟨_,k,_⟩|⟨_,_,_,rfl,rfl,rfl,rfl⟩|⟨_,_,k,_⟩
  ·exact absurd k h1
  ·exact absurd h2 k
  ·exact⟨rfl,rfl,rfl,hA⟩
  ·exact absurd k h3
 ·rcases hd with ⟨k,_⟩|⟨_,k,_⟩|⟨_,_,k,_⟩|⟨_,_,_,k4,k5,k6,k7⟩
  ·exact absurd k h1
  ·exact absurd h2 k
  ·exact absurd h3 k
  ·have V:=runV_is m (readScript b m.kinds.length m.funcs.length).1 A who gas
   obtain⟨r1,r2,r3,r4⟩:=run_same (n:=gas.toNat+1) (gas:=gas) (who:=who) ⟨hmd,hgd,by omega,by omega⟩ h3 (script_ok h2) (script_params h2) hA (by omega) (by omega)
   refine⟨by rw[h5,k5,r1,V.err],by rw[h6,k6,r2,V.code],by rw[h7,k7,r3,V.used],?_⟩
   by_cases he:(run m (readScript b m.kinds.length m.funcs.length).1 l who gas (gas.toNat+1)).err=0
   ·rw[k4,if_pos he,h4,if_pos (by rw[V.err,<-r1];exact he)]
    exact(r4 he).congr fun j hj=>(V.acc j hj).symm
   ·rw[k4,if_neg he,h4,if_neg (by rw[V.err,<-r1];exact he)]
    exact hA
end Dr
end Go.Proofs.YtjamgmbdilkbcaaGreat
namespace Go.Proofs.YtjamgmbdilkbcaaGreat
open Go.RowKit
namespace Dw
open Dr (Gg Rm)
def DRunOut(w w':World)(q:Nat)(m:Pu.Md)(l:List Dr.Hd)(b:ByteArray)(who gas:Int)(dk dv:Value)(r:Ending):Prop:=
 ∃l' e c u hv',r=.returned (.tuple #[.int .i64 e,.int .i64 c,.int .i64 u])/\Dr.Says m l b who gas l' e c u/\w'.heap[q]?=some (.cells #[dk,dv,hv'] 111 (0,0))/\w'.ownsRow 0 145 3 hv' l'.length (hc l')/\w.grownBy w' (some q)
theorem DRunOut.drewN{w w':World}{q:Nat}{m:Pu.Md}{l:List Dr.Hd}{b:ByteArray}{who gas:Int}{dk dv:Value}{r:Ending}(h:DRunOut w w' q m l b who gas dk dv r)(n:Nat):DRunOut w (w'.drewN n) q m l b who gas dk dv r:=by
 obtain⟨l',e,c,u,hv',h1,h2,h3,h4,h5⟩:=h
 exact⟨l',e,c,u,hv',h1,h2,h3,h4,⟨h5.os,h5.tape,h5.output,h5.size,h5.block⟩⟩
theorem drun_any(q:Nat)(m:Pu.Md)(l:List Dr.Hd)(dk dv hv:Value)(b:ByteArray)(who gas:Int)(w:World)(hb:w.heap[q]?=some (.cells #[dk,dv,hv] 111 (0,0)))(hm:MdR w q dk dv m)(ho:w.ownsRow 0 145 3 hv l.length (hc l))(hl:l.length<=48)(his:Pu.isMd m=true)(hs:b.size<=maxLen):
  Calls Tryz.prog 34 #[.pointer (some ⟨q,0,none⟩),.string b,.int .i64 who,.int .i64 gas] w fun e w'=>DRunOut w w' q m l b who gas dk dv e:=by
 have hq:q<w.heap.size:=(Array.getElem?_eq_some_iff.1 hb).1
 have HSAY:Hid (∀e,Dr.Says m l b who gas l e 0 0->∀w',Below w.heap.size w w'->DRunOut w w' q m l b who gas dk dv (.returned (.tuple #[.int .i64 e,.int .i64 0,.int .i64 0]))):=hid fun e he w' hb'=>⟨l,e,0,0,hv,rfl,he,(hb'.block q hq).trans hb,owns_block ho fun k hk=>hb'.block k (ho.lt k hk).2,grown_below hb' _⟩
 by_cases hw:who<0\/8<=who\/gas<0\/10000<gas
 ·have FIN:=hid (HSAY.out 4 (.inl ⟨hw,rfl,rfl,rfl,rfl⟩) w (Below.refl _ _))
  clear HSAY hb hm ho
  go_enter Tryz.func34,Tryz.ntmps34
  go_wp2
  all_goals try (exfalso;omega)
  all_goals exact bodyPost_ret (v:=.tuple #[.int .i64 4,.int .i64 0,.int .i64 0]) (by simp[results,Tryz.results34,go_sem]) rfl FIN.out
 have hw1:0<=who:=by omega
 have hw2:who<8:=by omega
 have hg1:0<=gas:=by omega
 have hg2:gas<=10000:=by omega
 obtain⟨a1,c1,rfl⟩:=hm.k.shape
 obtain⟨a2,c2,rfl⟩:=hm.v.shape
 have CS:=hid (dscript_any q m _ _ hv b w hb hm his hs)
 go_enter Tryz.func34,Tryz.ntmps34
 go_wp2_with fail
 refine CS.out.mono ?_
 rintro e w1 ⟨s1,s2,s3,s4,n1,n2,n3,n4,t1,t2,t3,t4,E,rfl,hE,hb1,hF⟩
 clear CS
 by_cases hE0:E=0
 rotate_left
 ·have HE:Hid (Dr.Says m l b who gas l E 0 0):=hid (by
   rcases hE with ⟨h1,rfl⟩|⟨h1,h2,rfl⟩|⟨_,_,h3⟩
   ·exact .inr (.inl ⟨hw,h1,rfl,rfl,rfl,rfl⟩)
   ·exact .inr (.inr (.inl ⟨hw,h1,h2,rfl,rfl,rfl,rfl⟩))
   ·exact absurd h3 hE0)
  have FIN:=hid fun(O:Obj)=>HSAY.out E HE.out (w1.alloc O) (hb1.trans (((Below.refl w1.heap.size w1).alloc (Nat.le_refl _) O).mono hb1.size))
  have n0:(E == 0)=false:=by simpa using hE0
  have n0':(E != 0)=true:=by simpa using hE0
  clear HSAY hb hm ho hE hF HE
  go_wp2
  exact bodyPost_ret (v:=.tuple #[.int .i64 E,.int .i64 0,.int .i64 0]) (by simp[results,Tryz.results34,go_sem]) rfl (FIN.out _)
 subst hE0
 have hfr:=hF rfl
 obtain⟨hr0,hso⟩:(readScript b m.kinds.length m.funcs.length).2=0/\Fl.Sound m (readScript b m.kinds.length m.funcs.length).1:=by
  rcases hE with ⟨h1,h2⟩|⟨_,_,h3⟩|⟨h1,h2,_⟩
  ·exact absurd h2.symm h1
  ·exact absurd h3 (by decide)
  ·exact⟨h1,h2⟩
 have hfn:=script_ok hr0
 have HFP:=hid (Dr.script_params hr0)
 have HSY:Hid (∀G:Gg,G=Dr.run m (readScript b m.kinds.length m.funcs.length).1 l who gas (gas.toNat+1)->Dr.Says m l b who gas (if G.err=0 then G.holds else l) G.err G.code G.used):=hid fun G hG=>.inr (.inr (.inr ⟨hw,hr0,hso,by rw[hG],by rw[hG],by rw[hG],by rw[hG]⟩))
 clear hE hF hr0 hso
 generalize (readScript b m.kinds.length m.funcs.length).1=f at *
 obtain⟨u1,v1,u2,v2,u3,v3,u4,v4,hsh⟩:=hfr.shape
 simp only[FV.mk.injEq,Value.slice.injEq]at hsh
 obtain⟨⟨rfl,rfl,rfl⟩,⟨rfl,rfl,rfl⟩,⟨rfl,rfl,rfl⟩,⟨rfl,rfl,rfl⟩⟩:=hsh
 obtain⟨W1,hW1⟩:∃W1,W1=w1.alloc (.cells #[.slice s1 f.params.length t1,.slice s2 f.results.length t2,.slice s3 f.locals.length t3,.slice s4 f.code.length t4] 62):=⟨_,rfl⟩
 have al:Below w1.heap.size w1 W1:=by rw[hW1];exact(Below.refl w1.heap.size w1).alloc (Nat.le_refl _) _
 have bW:=hb1.trans (al.mono hb1.size)
 have fbk:F4 W1 w1.heap.size 62 (.slice s1 f.params.length t1) (.slice s2 f.results.length t2) (.slice s3 f.locals.length t3) (.slice s4 f.code.length t4):=by rw[hW1];exact heap_alloc_new w1 _
 have HW1:=hid hW1
 have hz1:=hb1.size
 clear hW1
 have hq1:q<W1.heap.size:=Nat.lt_of_lt_of_le hq bW.size
 have hbq:=(bW.block q hq).trans hb
 have hoW:=owns_block ho fun k hk=>bW.block k (ho.lt k hk).2
 obtain⟨ha,hc_,hhv⟩:=owns_shape ho
 subst hhv
 have d0:W1.cell? ⟨q,0,none⟩=some (.slice a1 m.kinds.length c1):=by simp[World.cell?,hbq]
 have d1:W1.cell? ⟨q,1,none⟩=some (.slice a2 m.funcs.length c2):=by simp[World.cell?,hbq]
 have d2:W1.cell? ⟨q,2,none⟩=some (.slice ha l.length hc_):=by simp[World.cell?,hbq]
 have hoD:W1.drew.ownsRow 0 145 3 (.slice ha l.length hc_) l.length (hc l):=hoW
 have CW:=hid (without_any l _ (-1) W1.drew (owns_hs hoD) (by omega))
 rw[show Dr.without l (-1)=l from by unfold Dr.without;rw[if_pos (by decide)]]at CW
 have mW:=hm.below (bW.mono (Nat.le_of_lt hq))
 have fW:=hfr.below al
 clear hoD
 go_wp2_with fail
 rw[<-HW1.out]
 go_region_held3 (fun w'=>w'.cell? ⟨q,0,none⟩=some (.slice a1 m.kinds.length c1)/\w'.cell? ⟨q,1,none⟩=some (.slice a2 m.funcs.length c2)/\w'.cell? ⟨q,2,none⟩=some (.slice ha l.length hc_))
  (first|exact⟨d0,d1,d2⟩|exact⟨(hb5.cell (p:=⟨q,0,none⟩) hq1).trans d0,(hb5.cell (p:=⟨q,1,none⟩) hq1).trans d1,(hb5.cell (p:=⟨q,2,none⟩) hq1).trans d2⟩|exact⟨((hb5.alloc hb5.size _).cell (p:=⟨q,0,none⟩) hq1).trans d0,((hb5.alloc hb5.size _).cell (p:=⟨q,1,none⟩) hq1).trans d1,((hb5.alloc hb5.size _).cell (p:=⟨q,2,none⟩) hq1).trans d2⟩)
  ((go_at_call 61;refine CW.out.mono ?_;rintro e w5 ⟨hv2,rfl,ho5,hb5⟩;obtain⟨ha2,hc2,rfl⟩:=owns_shape ho5))
 have bA:=hb5.alloc hb5.size (.cells #[.slice a1 m.kinds.length c1,.slice a2 m.funcs.length c2,.slice ha2 l.length hc2,.int .i64 who,.int .i64 gas,.int .i64 0,.int .i64 0,.int .i64 0,.int .i64 0] 140)
 obtain⟨W2,hW2⟩:∃W2,W2=w5.alloc (.cells #[.slice a1 m.kinds.length c1,.slice a2 m.funcs.length c2,.slice ha2 l.length hc2,.int .i64 who,.int .i64 gas,.int .i64 0,.int .i64 0,.int .i64 0,.int .i64 0] 140):=⟨_,rfl⟩
 have hg2':W2.heap[w5.heap.size]?=some (.cells #[.slice a1 m.kinds.length c1,.slice a2 m.funcs.length c2,.slice ha2 l.length hc2,.int .i64 who,.int .i64 gas,.int .i64 0,.int .i64 0,.int .i64 0,.int .i64 0] 140 (0,0)):=by rw[hW2];exact heap_alloc_new w5 _
 have hoA:W2.ownsRow 0 145 3 (.slice ha2 l.length hc2) l.length (hc l):=by rw[hW2];exact owns_zero (ho5.alloc _)
 rw[<-hW2]at bA
 have HW2:=hid hW2
 have hz2:W2.heap.size=w5.heap.size+1:=by rw[hW2];simp
 clear hW2
 have bD:Below W1.heap.size W1 W2:=((Below.refl _ _).drew).trans bA
 have hz5:W1.heap.size<=w5.heap.size:=hb5.size
 have hne5:(Value.slice ha2 l.length hc2).ownBlock≠some w5.heap.size:=fun e=>by have:=(ho5.lt _ e).2;omega
 have hgx:GoX W2 w5.heap.size ⟨.slice a1 m.kinds.length c1,.slice a2 m.funcs.length c2,who,gas,fun _=>False⟩ ⟨l,0,0,0,0⟩ (.slice ha2 l.length hc2):=⟨hg2',hoA,hne5⟩
 have mW2:MdR W2 w5.heap.size (.slice a1 m.kinds.length c1) (.slice a2 m.funcs.length c2) m:=(mW.below (bD.mono (Nat.le_of_lt hq1))).wide (by omega)
 have hz1':w1.heap.size<=W1.heap.size:=al.size
 have fW2:=(fW.below (bD.mono hz1')).wide (B':=w5.heap.size) (by omega)
 have CT:=hid (th_all m his (gas.toNat+1) W2 w5.heap.size ⟨.slice a1 m.kinds.length c1,.slice a2 m.funcs.length c2,who,gas,fun _=>False⟩ f _ ⟨l,0,0,0,0⟩ [] _ (.slice none 0 0) hgx mW2 fW2 hfn ⟨none,0,0,rfl,fun h=>absurd h (by simp),fun j hj=>absurd hj (by simp)⟩ (by simp[Value.ownBlock]) (by rw[HFP.out];rfl) (by show(gas-0).toNat<gas.toNat+1;omega) (by show l.length+(gas-0).toNat<=800000;omega) ⟨by show(0:Int)<=0;omega,by show(0:Int)<8;omega,by show(0:Int)<=0;omega,hg1,hg2⟩)
 obtain⟨RES,hRES⟩:∃RES,RES=Dr.go m who gas (gas.toNat+1) f 0 ⟨l,0,0,0,1⟩ (Dr.room f []):=⟨_,rfl⟩
 have CT2:Hid (Calls Tryz.prog 62 #[.pointer (some ⟨w5.heap.size,0,none⟩),.agg #[.slice s1 f.params.length t1,.slice s2 f.results.length t2,.slice s3 f.locals.length t3,.slice s4 f.code.length t4],.slice none 0 0] W2 fun e w'=>ThOut W2 w' w5.heap.size ⟨.slice a1 m.kinds.length c1,.slice a2 m.funcs.length c2,who,gas,fun _=>False⟩ (.slice ha2 l.length hc2) RES e):=by rw[hRES];exact CT
 have HSY2:=hid (HSY.out RES.2 (by rw[hRES];rfl))
 have f0:W2.cell? ⟨w1.heap.size,0,none⟩=some (.slice s1 f.params.length t1):=(bD.cell (p:=⟨w1.heap.size,0,none⟩) fbk.lt).trans fbk.c0
 have f1:W2.cell? ⟨w1.heap.size,1,none⟩=some (.slice s2 f.results.length t2):=(bD.cell (p:=⟨w1.heap.size,1,none⟩) fbk.lt).trans fbk.c1
 have f2:W2.cell? ⟨w1.heap.size,2,none⟩=some (.slice s3 f.locals.length t3):=(bD.cell (p:=⟨w1.heap.size,2,none⟩) fbk.lt).trans fbk.c2
 have f3:W2.cell? ⟨w1.heap.size,3,none⟩=some (.slice s4 f.code.length t4):=(bD.cell (p:=⟨w1.heap.size,3,none⟩) fbk.lt).trans fbk.c3
 have bw2:Below w.heap.size w W2:=bW.trans (bD.mono bW.size)
 have hqW2:=(bw2.block q hq).trans hb
 have ho2:=owns_block ho fun k hk=>bw2.block k (ho.lt k hk).2
 have hql2:q<W2.heap.size:=Nat.lt_of_lt_of_le hq bw2.size
 have hqg:q≠w5.heap.size:=by have:=bW.size;omega
 have hoq:∀k,(Value.slice ha l.length hc_).ownBlock=some k->k<W2.heap.size/\k≠w5.heap.size:=fun k hk=>by have:=(ho.lt k hk).2;have:=bW.size;omega
 clear CT hRES hgx mW2 fW2 hoA hg2' bA ho5 hb5 CW HSY d0 d1 d2 hz2 hbq
 rw[<-HW2.out]
 clear HW2
 go_wp2_with fail
 refine CT2.out.mono ?_
 rintro e w7 ⟨vv,hv7,rfl,hvo,hx7,_,_,g7⟩
 obtain⟨va,vcap,hvv⟩:=owns_shape hvo
 obtain⟨ha7,hc7,hh7⟩:=owns_shape hx7.ho
 subst hh7
 have c4:w7.cell? ⟨w5.heap.size,5,none⟩=some (.int .i64 RES.2.used):=by simp[World.cell?,hx7.b,gcells]
 have c5:w7.cell? ⟨w5.heap.size,6,none⟩=some (.int .i64 RES.2.err):=by simp[World.cell?,hx7.b,gcells]
 have c6:w7.cell? ⟨w5.heap.size,7,none⟩=some (.int .i64 RES.2.code):=by simp[World.cell?,hx7.b,gcells]
 have c2':w7.cell? ⟨w5.heap.size,2,none⟩=some (.slice ha7 RES.2.holds.length hc7):=by simp[World.cell?,hx7.b,gcells]
 have hq7:=(g7.block q hql2 (by simpa using hqg)).trans hqW2
 have y2:w7.cell? ⟨q,2,none⟩=some (.slice ha l.length hc_):=by simp[World.cell?,hq7]
 have z2:w7.frozen? ⟨q,2,none⟩=false:=by simp[World.frozen?,hq7]
 have bw7:Below w.heap.size w w7:=bw2.grown g7 bw2.size (fun k hk=>by cases hk;have:=bW.size;omega)
 have FINB:Hid (RES.2.err≠0->DRunOut w w7 q m l b who gas (.slice a1 m.kinds.length c1) (.slice a2 m.funcs.length c2) (.returned (.tuple #[.int .i64 RES.2.err,.int .i64 RES.2.code,.int .i64 RES.2.used]))):=hid fun he=>⟨l,_,_,_,_,rfl,by have:=HSY2.out;rw[if_neg he]at this;exact this,hq7,owns_block ho fun k hk=>bw7.block k (ho.lt k hk).2,grown_below bw7 _⟩
 have hneq:(Value.slice ha7 RES.2.holds.length hc7).ownBlock≠some q:=fun e=>by
  obtain⟨c,hc9⟩:=owns_ty hx7.ho e
  rw[hq7]at hc9
  simp at hc9
 have FING:Hid (RES.2.err=0->DRunOut w (w7.setCell ⟨q,2,none⟩ (.slice ha7 RES.2.holds.length hc7)) q m l b who gas (.slice a1 m.kinds.length c1) (.slice a2 m.funcs.length c2) (.returned (.tuple #[.int .i64 RES.2.err,.int .i64 RES.2.code,.int .i64 RES.2.used]))):=hid fun he=>⟨RES.2.holds,_,_,_,.slice ha7 RES.2.holds.length hc7,rfl,by have:=HSY2.out;rw[if_pos he]at this;exact this,by simp[World.setCell,Array.getElem?_modify,hq7],owns_set hx7.ho hneq 2 _,grown_trans (grown_below bw7 _) (grown_set w7 q 2 _)⟩
 clear hx7 hvo g7 CT2 f0 f1 f2 f3 HSY2 HSAY hneq bw7 hq7
 subst hvv
 generalize RES.2.holds.length=LH at *
 generalize RES.2.used=RU at *
 generalize RES.2.code=RC at *
 generalize RES.2.err=RE at *
 by_cases hre:RE=0
 ·have FF:=hid (FING.out hre)
  subst hre
  clear FING FINB
  have hn1:¬(q=w5.heap.size):=hqg
  have hn2:¬(w5.heap.size=q):=fun e=>hqg e.symm
  go_wp2
  go_quiet (fail)
  go_wp2
  exact bodyPost_ret (v:=.tuple #[.int .i64 0,.int .i64 RC,.int .i64 RU]) (by simp[results,Tryz.results34,go_sem]) rfl (FF.out.drewN _)
 ·have FF:=hid (FINB.out hre)
  have n0:(RE == 0)=false:=by simpa using hre
  clear FING FINB
  go_wp2
  go_quiet (fail)
  go_wp2
  exact bodyPost_ret (v:=.tuple #[.int .i64 RE,.int .i64 RC,.int .i64 RU]) (by simp[results,Tryz.results34,go_sem]) rfl (FF.out.drewN _)
end Dw
namespace Dr
def amount(m:Pu.Md)(l:List Hd)(who kind:Int):Int × Int:=
 if who<0\/8<=who\/kind<1\/(m.kinds.length:Int)<kind then(0,4)
 else if find l who kind<0 then(0,7) else((l.getD (find l who kind).toNat ⟨0,0,0⟩).n,0)
theorem amount_same{m:Pu.Md}{l:List Hd}{A:Nat->Bool × Int}(h:HA l A)(hk:m.kinds.length<=6)(who kind:Int):ledAmount m A who kind=amount m l who kind:=by
 unfold ledAmount amount
 by_cases h1:kind<1\/(m.kinds.length:Int)<kind
 ·rw[if_pos h1,if_pos (by omega)]
 ·rw[if_neg h1]
  by_cases h2:who<0\/8<=who
  ·rw[if_pos (by omega)]
   have hlk:lookS A who kind=((false,0),4):=by
    unfold lookS
    rw[if_neg (fun x=>by have:=x.1;unfold isAcc at this;simp at this;omega)]
   unfold amountS
   rw[hlk]
   rfl
  ·rw[if_neg (by omega)]
   have hok:setOk who kind:=⟨by unfold isAcc;simp;omega,by unfold isKd;simp;omega⟩
   rw[h.amount hok]
   cases hv:val who kind l with
   | none=>rw[if_pos (find_neg.2 hv)]
   | some n=>
    obtain⟨i,_,hi,_,hn⟩:=find_some hv
    rw[if_neg (by omega),hi,show((i:Int)).toNat=i from by omega,hn]
end Dr
namespace Dw
structure LgD (w:World) (q:Nat) (m:Pu.Md) (l:List Dr.Hd):Prop where
 ex:∃mk mv hv,w.heap[q]?=some (.cells #[mk,mv,hv] 111 (0,0))/\MdR w q mk mv m/\w.ownsRow 0 145 3 hv l.length (hc l)/\hv.ownBlock≠some q
theorem damount_any(q:Nat)(m:Pu.Md)(l:List Dr.Hd)(who kind:Int)(w:World)(h:LgD w q m l)(hl:l.length<=900000):
  Calls Tryz.prog 36 #[.pointer (some ⟨q,0,none⟩),.int .i64 who,.int .i64 kind] w fun e w'=>e=.returned (.tuple #[.int .i64 (Dr.amount m l who kind).1,.int .i64 (Dr.amount m l who kind).2])/\Below w.heap.size w w':=by
 obtain⟨mk,mv,hv,hb,hm,ho,_⟩:=h.ex
 obtain⟨a1,c1,rfl⟩:=hm.k.shape
 have d0:w.cell? ⟨q,0,none⟩=some (.slice a1 m.kinds.length c1):=by simp[World.cell?,hb]
 have d2:w.cell? ⟨q,2,none⟩=some hv:=by simp[World.cell?,hb]
 have hql:q<w.heap.size:=(Array.getElem?_eq_some_iff.1 hb).1
 have hHs:=owns_hs ho
 obtain⟨ao,cap,hvs⟩:=owns_shape ho
 subst hvs
 have nk:=hm.nk
 unfold Dr.amount
 by_cases hbad:who<0\/8<=who\/kind<1\/(m.kinds.length:Int)<kind
 ·rw[if_pos hbad]
  clear hHs ho hm hb h
  go_enter Tryz.func36,Tryz.ntmps36
  go_wp2
  all_goals try (exfalso;omega)
  all_goals (go_ret2;exact⟨rfl,Below.refl _ _⟩)
 ·rw[if_neg hbad]
  have CF:=hid (find_any l _ who kind w hHs (by omega))
  have g1:0<=who:=by omega
  have g2:who<8:=by omega
  have g3:1<=kind:=by omega
  have g4:kind<=(m.kinds.length:Int):=by omega
  have hfn:=@Dr.find_neg l who kind
  have hfs:=fun n=>@Dr.find_some l who kind n
  obtain⟨ao',cap',b',hvv,q1,q2⟩:=hHs
  simp only[Value.slice.injEq,true_and]at hvv
  obtain⟨rfl,rfl⟩:=hvv
  by_cases hneg:Dr.find l who kind<0
  ·rw[if_pos hneg]
   generalize Dr.find l who kind=FI at *
   clear ho hm hb h hbad q1 q2 hfn hfs
   go_enter Tryz.func36,Tryz.ntmps36
   go_wp2_with fail
   refine CF.out.mono ?_
   rintro e w1 ⟨rfl,hb1⟩
   clear CF
   go_wp2
   go_ret2
   exact⟨rfl,hb1⟩
  ·rw[if_neg hneg]
   have hv:∃n,Dr.val who kind l=some n:=by
    cases hv:Dr.val who kind l with
    | none=>exact absurd (hfn.2 hv) hneg
    | some n=>exact⟨n,rfl⟩
   obtain⟨n,hn⟩:=hv
   obtain⟨i,_,hi,hil,hnn⟩:=hfs n hn
   obtain⟨rfl,hbl⟩:=q1 (by omega)
   have n3:=(q2 i hil).2.2
   have hgn:(l.getD i noHd).n=n:=hnn
   rw[hgn]at n3
   rw[hi,show((i:Int)).toNat=i from by omega,hnn]
   rw[hi]at CF
   clear ho hm hb h hbad q1 q2 hfn hfs hneg hi hn hnn hgn
   generalize l.length=LL at *
   go_enter Tryz.func36,Tryz.ntmps36
   go_wp2_with fail
   refine CF.out.mono ?_
   rintro e w1 ⟨rfl,hb1⟩
   have e2:=(hb1.cell (p:=⟨q,2,none⟩) hql).trans d2
   have e3:=(hb1.cell (p:=⟨b',i*3+2,none⟩) hbl).trans n3
   clear CF d0 d2 n3
   go_wp2
   go_ret2
   exact⟨rfl,hb1⟩
end Dw
end Go.Proofs.YtjamgmbdilkbcaaGreat
