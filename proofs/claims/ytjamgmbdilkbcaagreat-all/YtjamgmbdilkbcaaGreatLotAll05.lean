import Derived.Test.YtjamgmbdilkbcaaGreatLotAll03
import Derived.Test.YtjamgmbdilkbcaaGreatLotAll04
import Derived.Deep.RegionHeld3
set_option maxHeartbeats 2000000
set_option maxRecDepth 100000
namespace Go.Proofs.YtjamgmbdilkbcaaGreat
namespace Pu
def rest(b:ByteArray)(s:St):List UInt8:=b.data.toList.drop s.1
theorem byte_u8(c:UInt8):byte (c.toNat:Int)=c:=by
 unfold byte
 have:=UInt8.toNat_lt c
 have h:((c.toNat:Int) % 256).toNat=c.toNat:=by omega
 rw[h]
 exact UInt8.ofNat_toNat
theorem u8_byte(n:Int)(h0:0<=n)(h1:n<=255):((byte n).toNat:Int)=n:=by
 unfold byte
 rw[UInt8.toNat_ofNat']
 omega
theorem number_ok{b:ByteArray}{lo hi:Int}{s:St}(h:(number b lo hi s).2.2=false):
  s.2=false/\rest b s=byte (number b lo hi s).1::rest b (number b lo hi s).2/\lo<=(number b lo hi s).1/\(number b lo hi s).1<=hi/\0<=(number b lo hi s).1/\(number b lo hi s).1<=255:=by
 have hrng:=number_rng b lo hi s
 revert h hrng
 unfold number
 split
 ·rename_i h1
  intro h;simp[h1]at h
 ·rename_i h1
  split
  ·intro h;simp at h
  ·rename_i h2
   split
   ·intro h;simp at h
   ·rename_i h3
    intro _ hrng
    have hlt:s.1<b.data.toList.length:=by simp at h2 ⊢;exact h2
    refine⟨by simpa using h1,?_,by simp only;omega,by simp only;omega,hrng.1,hrng.2⟩
    simp only[rest]
    rw[List.drop_eq_getElem_cons hlt,byte_u8]
    congr 1
    rw[List.getD_eq_getElem?_getD,List.getElem?_eq_getElem hlt]
    rfl
theorem number_go{b:ByteArray}{lo hi:Int}{s:St}{n:Int}{t:List UInt8}(hs:s.2=false)(hr:rest b s=byte n::t)(h0:0<=n)(h1:n<=255)(hlo:lo<=n)(hhi:n<=hi):
  (number b lo hi s).1=n/\(number b lo hi s).2.2=false/\rest b (number b lo hi s).2=t:=by
 have hlt:s.1<b.data.toList.length:=by
  have:=congrArg List.length hr
  simp only[rest,List.length_drop,List.length_cons]at this
  omega
 have hd:=List.drop_eq_getElem_cons hlt
 unfold rest at hr
 rw[hr]at hd
 have hb:b.data.toList[s.1]=byte n:=by injection hd with e _;exact e.symm
 have ht:t=b.data.toList.drop (s.1+1):=by injection hd
 have hg:((b.data.toList.getD s.1 0).toNat:Int)=n:=by
  rw[List.getD_eq_getElem?_getD,List.getElem?_eq_getElem hlt]
  simp only[Option.getD_some,hb]
  exact u8_byte n h0 h1
 have e:number b lo hi s=(n,(s.1+1,false)):=by
  unfold number
  rw[if_neg (by simp[hs]),if_neg (by simpa using hlt),hg,if_neg (by omega)]
 rw[e]
 exact⟨rfl,rfl,ht.symm⟩
theorem nums_ok{b:ByteArray}{hi:Int}{s:St}:∀{k:Nat},(nums b hi s k).2.2=false->
  s.2=false/\rest b s=(nums b hi s k).1.map byte++rest b (nums b hi s k).2/\∀x∈(nums b hi s k).1,0<=x/\x<=hi
 | 0,h=>⟨h,by simp[nums],by simp[nums]⟩
 | k+1,h=>by
  have h1:=number_ok (b:=b) (lo:=0) (hi:=hi) (s:=(nums b hi s k).2) h
  have h2:=nums_ok h1.1
  refine⟨h2.1,?_,?_⟩
  ·rw[h2.2.1,h1.2.1]
   simp[nums]
  ·intro x hx
   simp only[nums,List.mem_append,List.mem_singleton]at hx
   rcases hx with hx|hx
   ·exact h2.2.2 x hx
   ·subst hx;exact⟨h1.2.2.1,h1.2.2.2.1⟩
theorem nums_go{b:ByteArray}{hi:Int}(hhi:hi<=255){s:St}{t:List UInt8}(hs:s.2=false):∀(k:Nat) (l:List Int) (_:k<=l.length) (_:rest b s=l.map byte++t) (_:∀x∈l,0<=x/\x<=hi),
  (nums b hi s k).1=l.take k/\(nums b hi s k).2.2=false/\rest b (nums b hi s k).2=(l.drop k).map byte++t
 | 0,l,_,hr,_=>⟨by simp[nums],hs,by simpa[nums]using hr⟩
 | k+1,l,hk,hr,hl=>by
  obtain⟨h1,h2,h3⟩:=nums_go hhi hs k l (by omega) hr hl
  have hlt:k<l.length:=by omega
  rw[List.drop_eq_getElem_cons hlt,List.map_cons,List.cons_append]at h3
  have hx:=hl l[k] (List.getElem_mem hlt)
  obtain⟨g1,g2,g3⟩:=number_go (lo:=0) (hi:=hi) h2 h3 hx.1 (by omega) hx.1 hx.2
  refine⟨?_,g2,g3⟩
  simp only[nums]
  rw[g1,h1,List.take_succ_eq_append_getElem hlt]
theorem list_ok{b:ByteArray}{most hi:Int}{s:St}(h:(list b most hi s).2.2=false):
  s.2=false/\rest b s=wList (list b most hi s).1++rest b (list b most hi s).2/\isList (list b most hi s).1 most hi=true:=by
 have h1:=nums_ok (b:=b) (hi:=hi) h
 have h2:=number_ok h1.1
 have hl:(list b most hi s).1.length=(number b 0 most s).1.toNat:=nums_len _ _ _ _
 refine⟨h2.1,?_,?_⟩
 ·rw[h2.2.1,h1.2.1,wList,hl]
  have:((number b 0 most s).1.toNat:Int)=(number b 0 most s).1:=by omega
  rw[this]
  rfl
 ·simp only[isList,Bool.and_eq_true,decide_eq_true_eq,List.all_eq_true]
  refine⟨by omega,fun x hx=>h1.2.2 x hx⟩
theorem list_go{b:ByteArray}{most hi:Int}(hm:most<=255)(hhi:hi<=255){s:St}{t:List UInt8}{l:List Int}(hs:s.2=false)(hr:rest b s=wList l++t)(hl:isList l most hi=true):
  (list b most hi s).1=l/\(list b most hi s).2.2=false/\rest b (list b most hi s).2=t:=by
 simp only[isList,Bool.and_eq_true,decide_eq_true_eq,List.all_eq_true]at hl
 obtain⟨h1,h2⟩:=hl
 rw[wList,List.cons_append]at hr
 obtain⟨g1,g2,g3⟩:=number_go (lo:=0) (hi:=most) hs hr (by omega) (by omega) (by omega) h1
 have:=nums_go (b:=b) hhi g2 l.length l (Nat.le_refl _) g3 h2
 unfold list
 rw[g1,Int.toNat_natCast]
 simpa using this
theorem argLo_ge(op:Int):0<=argLo op:=by
 unfold argLo
 split<;>omega
theorem argHi_le(ki fu pl n op:Int)(hki:ki<=255)(hfu:fu<=255)(hpl:pl<=255)(hn:n<=255):argHi ki fu pl n op<=255:=by
 unfold argHi
 repeat' split
 all_goals omega
theorem wCode_snoc(l:List (Int × Int))(x:Int × Int):wCode (l++[x])=wCode l++[byte x.1,byte x.2]:=by simp[wCode]
theorem code_ok{b:ByteArray}{ki fu pl n:Int}{s:St}:∀{k:Nat},(code b ki fu pl n s k).2.2=false->
  s.2=false/\rest b s=wCode (code b ki fu pl n s k).1++rest b (code b ki fu pl n s k).2/\isCode (code b ki fu pl n s k).1 ki fu pl n=true
 | 0,h=>⟨h,by simp[code,wCode],by simp[code,isCode]⟩
 | k+1,h=>by
  have h1:=number_ok h
  have h2:=number_ok h1.1
  have h3:=code_ok h2.1
  refine⟨h3.1,?_,?_⟩
  ·rw[h3.2.1,h2.2.1,h1.2.1]
   simp only[code,wCode_snoc,List.append_assoc,List.cons_append,List.nil_append]
  ·have h4:=h3.2.2
   simp only[isCode,List.all_eq_true]at h4
   simp only[code,isCode,List.all_append,List.all_cons,List.all_nil,Bool.and_true,Bool.and_eq_true,List.all_eq_true]
   refine⟨h4,?_⟩
   simp only[isInstr,Bool.and_eq_true,decide_eq_true_eq]
   exact⟨⟨⟨h2.2.2.1,h2.2.2.2.1⟩,h1.2.2.1⟩,h1.2.2.2.1⟩
theorem code_go{b:ByteArray}{ki fu pl n:Int}(hki:ki<=255)(hfu:fu<=255)(hpl:pl<=255)(hn:n<=255){s:St}{t:List UInt8}(hs:s.2=false):
  ∀(k:Nat) (l:List (Int × Int)) (_:k<=l.length) (_:rest b s=wCode l++t) (_:isCode l ki fu pl n=true),
  (code b ki fu pl n s k).1=l.take k/\(code b ki fu pl n s k).2.2=false/\rest b (code b ki fu pl n s k).2=wCode (l.drop k)++t
 | 0,l,_,hr,_=>⟨by simp[code],hs,by simpa[code]using hr⟩
 | k+1,l,hk,hr,hl=>by
  obtain⟨h1,h2,h3⟩:=code_go hki hfu hpl hn hs k l (by omega) hr hl
  have hlt:k<l.length:=by omega
  have hx:isInstr ki fu pl n l[k]=true:=by
   simp only[isCode,List.all_eq_true]at hl
   exact hl _ (List.getElem_mem hlt)
  simp only[isInstr,Bool.and_eq_true,decide_eq_true_eq]at hx
  obtain⟨⟨⟨x1,x2⟩,x3⟩,x4⟩:=hx
  have e1:=argLo_ge l[k].1
  have e2:=argHi_le ki fu pl n l[k].1 hki hfu hpl hn
  rw[List.drop_eq_getElem_cons hlt]at h3
  simp only[wCode,List.flatMap_cons,List.cons_append,List.nil_append]at h3
  obtain⟨g1,g2,g3⟩:=number_go (lo:=0) (hi:=18) h2 h3 x1 (by omega) x1 x2
  obtain⟨f1,f2,f3⟩:=number_go (lo:=argLo l[k].1) (hi:=argHi ki fu pl n l[k].1) g2 g3 (by omega) (by omega) x3 x4
  refine⟨?_,?_,?_⟩
  ·simp only[code]
   rw[g1,f1,h1,List.take_succ_eq_append_getElem hlt]
  ·simp only[code]
   rw[g1];exact f2
  ·simp only[code]
   rw[g1];exact f3
theorem func_ok{b:ByteArray}{ki fu:Int}{s:St}(h:(func b ki fu s).2.2=false):
  s.2=false/\rest b s=wFn (func b ki fu s).1++rest b (func b ki fu s).2/\isFn (func b ki fu s).1 ki fu=true:=by
 have h1:=code_ok h
 have h2:=number_ok h1.1
 have h3:=list_ok h2.1
 have h4:=list_ok h3.1
 have h5:=list_ok h4.1
 have hcl:∀pl n s k,(code b ki fu pl n s k).1.length=k:=fun pl n s k=>code_len _ _ _ _ _ _ _
 refine⟨h5.1,?_,?_⟩
 ·rw[h5.2.1,h4.2.1,h3.2.1,h2.2.1,h1.2.1]
  simp only[func,wFn,hcl,List.append_assoc,List.cons_append]
  rw[Int.toNat_of_nonneg h2.2.2.2.2.1]
 ·simp only[func,isFn,Bool.and_eq_true,decide_eq_true_eq,hcl]
  refine⟨h5.2.2,h4.2.2,h3.2.2,by omega,by omega,?_⟩
  rw[Int.toNat_of_nonneg h2.2.2.2.2.1]
  exact h1.2.2
theorem func_go{b:ByteArray}{ki fu:Int}(hki:ki<=255)(hfu:fu<=255){s:St}{t:List UInt8}{f:Fn}(hs:s.2=false)(hr:rest b s=wFn f++t)(hf:isFn f ki fu=true):
  (func b ki fu s).1=f/\(func b ki fu s).2.2=false/\rest b (func b ki fu s).2=t:=by
 simp only[isFn,Bool.and_eq_true,decide_eq_true_eq]at hf
 obtain⟨f1,f2,f3,f4,f5,f6⟩:=hf
 have n1:(f.params.length:Int)<=4:=by simp only[isList,Bool.and_eq_true,decide_eq_true_eq]at f1;exact f1.1
 have n3:(f.locals.length:Int)<=4:=by simp only[isList,Bool.and_eq_true,decide_eq_true_eq]at f3;exact f3.1
 simp only[wFn,List.append_assoc]at hr
 obtain⟨a1,a2,a3⟩:=list_go (most:=4) (by omega) hki hs hr f1
 obtain⟨b1,b2,b3⟩:=list_go (most:=3) (by omega) hki a2 a3 f2
 obtain⟨c1,c2,c3⟩:=list_go (most:=4) (by omega) hki b2 b3 f3
 rw[List.cons_append]at c3
 obtain⟨d1,d2,d3⟩:=number_go (lo:=1) (hi:=100) c2 c3 (by omega) (by omega) (by omega) (by omega)
 obtain⟨e1,e2,e3⟩:=code_go (b:=b) (n:=f.code.length) hki hfu (pl:=(f.params.length:Int)+(f.locals.length:Int)) (by omega) (by omega) d2 f.code.length f.code (Nat.le_refl _) d3 f6
 simp only[func]
 rw[a1,b1,c1,d1,Int.toNat_natCast]
 refine⟨?_,e2,by simpa[wCode]using e3⟩
 rw[e1,List.take_of_length_le (Nat.le_refl _)]
theorem wFns_snoc(l:List Fn)(x:Fn):wFns (l++[x])=wFns l++wFn x:=by simp[wFns]
theorem fns_ok{b:ByteArray}{ki fu:Int}{s:St}:∀{k:Nat},(fns b ki fu s k).2.2=false->
  s.2=false/\rest b s=wFns (fns b ki fu s k).1++rest b (fns b ki fu s k).2/\∀f∈(fns b ki fu s k).1,isFn f ki fu=true
 | 0,h=>⟨h,by simp[fns,wFns],by simp[fns]⟩
 | k+1,h=>by
  have h1:=func_ok h
  have h2:=fns_ok h1.1
  refine⟨h2.1,?_,?_⟩
  ·rw[h2.2.1,h1.2.1]
   simp only[fns,wFns_snoc,List.append_assoc]
  ·intro f hf
   simp only[fns,List.mem_append,List.mem_singleton]at hf
   rcases hf with hf|hf
   ·exact h2.2.2 f hf
   ·subst hf;exact h1.2.2
theorem fns_go{b:ByteArray}{ki fu:Int}(hki:ki<=255)(hfu:fu<=255){s:St}{t:List UInt8}(hs:s.2=false):
  ∀(k:Nat) (l:List Fn) (_:k<=l.length) (_:rest b s=wFns l++t) (_:∀f∈l,isFn f ki fu=true),
  (fns b ki fu s k).1=l.take k/\(fns b ki fu s k).2.2=false/\rest b (fns b ki fu s k).2=wFns (l.drop k)++t
 | 0,l,_,hr,_=>⟨by simp[fns],hs,by simpa[fns]using hr⟩
 | k+1,l,hk,hr,hl=>by
  obtain⟨h1,h2,h3⟩:=fns_go hki hfu hs k l (by omega) hr hl
  have hlt:k<l.length:=by omega
  rw[List.drop_eq_getElem_cons hlt]at h3
  simp only[wFns,List.flatMap_cons,List.append_assoc]at h3
  obtain⟨g1,g2,g3⟩:=func_go hki hfu h2 h3 (hl _ (List.getElem_mem hlt))
  refine⟨?_,g2,g3⟩
  simp only[fns]
  rw[g1,h1,List.take_succ_eq_append_getElem hlt]
theorem module_ok{b:ByteArray}(h:(module b).2.2=false):b.data.toList=wMd (module b).1++rest b (module b).2/\isMd (module b).1=true:=by
 have h1:=fns_ok h
 have h2:=number_ok h1.1
 have h3:=list_ok h2.1
 have h4:=number_ok h3.1
 have h5:=number_ok h4.1
 have hfl:∀ki fu s k,(fns b ki fu s k).1.length=k:=fun ki fu s k=>fns_len _ _ _ _ _
 constructor
 ·have e:b.data.toList=rest b (0,false):=by simp[rest]
  have e5:byte (number b 67 67 (0,false)).1=67:=by
   have:(number b 67 67 (0,false)).1=67:=by omega
   rw[this];decide
  have e4:byte (number b 70 70 (number b 67 67 (0,false)).2).1=70:=by
   have:(number b 70 70 (number b 67 67 (0,false)).2).1=70:=by omega
   rw[this];decide
  rw[e,h5.2.1,h4.2.1,h3.2.1,h2.2.1,h1.2.1]
  simp only[module,wMd,hfl,List.append_assoc,List.cons_append,e5,e4]
  rw[Int.toNat_of_nonneg h2.2.2.2.2.1]
 ·simp only[module,isMd,Bool.and_eq_true,decide_eq_true_eq,List.all_eq_true,hfl]
  refine⟨h3.2.2,by omega,by omega,fun f hf=>?_⟩
  rw[Int.toNat_of_nonneg h2.2.2.2.2.1]
  exact h1.2.2 f hf
theorem module_go{b:ByteArray}{t:List UInt8}{m:Md}(hr:b.data.toList=wMd m++t)(hm:isMd m=true):(module b).1=m/\(module b).2.2=false/\rest b (module b).2=t:=by
 simp only[isMd,Bool.and_eq_true,decide_eq_true_eq,List.all_eq_true]at hm
 obtain⟨m1,m2,m3,m4⟩:=hm
 have n1:(m.kinds.length:Int)<=6:=by simp only[isList,Bool.and_eq_true,decide_eq_true_eq]at m1;exact m1.1
 have e:rest b (0,false)=byte 67::(byte 70::(wList m.kinds++(byte m.funcs.length::(wFns m.funcs++t)))):=by
  have:rest b (0,false)=b.data.toList:=by simp[rest]
  rw[this,hr,show byte 67=67 from by decide,show byte 70=70 from by decide]
  simp only[wMd,List.append_assoc,List.cons_append]
 obtain⟨a1,a2,a3⟩:=number_go (lo:=67) (hi:=67) (s:=(0,false)) rfl e (by omega) (by omega) (by omega) (by omega)
 obtain⟨b1,b2,b3⟩:=number_go (lo:=70) (hi:=70) a2 a3 (by omega) (by omega) (by omega) (by omega)
 obtain⟨c1,c2,c3⟩:=list_go (most:=6) (hi:=3) (by omega) (by omega) b2 b3 m1
 obtain⟨d1,d2,d3⟩:=number_go (lo:=1) (hi:=8) c2 c3 (by omega) (by omega) (by omega) (by omega)
 obtain⟨e1,e2,e3⟩:=fns_go (ki:=m.kinds.length) (fu:=m.funcs.length) (by omega) (by omega) d2 m.funcs.length m.funcs (Nat.le_refl _) d3 m4
 simp only[module]
 rw[c1,d1,Int.toNat_natCast]
 refine⟨?_,e2,by simpa[wFns]using e3⟩
 rw[e1,List.take_of_length_le (Nat.le_refl _)]
theorem canon{b:ByteArray}(h:(decode b).2.1=0):encode (decode b).1=(b.data.toList,0):=by
 revert h
 unfold decode
 split
 ·intro h;simp at h
 ·rename_i h1
  simp only
  split
  ·intro h;simp at h
  ·rename_i h2
   intro _
   have h3:¬(module b).2.1<b.size:=by
    intro hc;simp[atEnd,hc]at h2
   have h4:(module b).2.2=false:=by
    simp only[atEnd,h3,if_false]at h2;simpa using h2
   obtain⟨k1,k2⟩:=module_ok h4
   have hn:rest b (module b).2=[]:=by
    simp only[rest,List.drop_eq_nil_iff]
    simpa using h3
   rw[hn,List.append_nil]at k1
   show encode (module b).1=_
   unfold encode
   rw[if_pos k2,<-k1,if_neg (by simpa using h1)]
end Pu
end Go.Proofs.YtjamgmbdilkbcaaGreat
namespace Go.Proofs.YtjamgmbdilkbcaaGreat
open Go.RowKit
theorem addr_add(g j:Nat):(⟨g,0,none⟩:Addr).add j=⟨g,0+j,none⟩:=by unfold Addr.add;split<;>simp_all
theorem owns_len{w:World}{B e size n:Nat}{v:Value}{xs:List Value}(h:w.ownsRow B e size v n xs):n<=maxLen:=by
 rcases h.2 with ⟨_,rfl⟩|⟨g,cap,cur,_,_,_,h1,h2,_⟩
 ·exact Nat.zero_le _
 ·exact Nat.le_trans h1 h2
theorem owns_ints{w:World}{B:Nat}{v:Value}{l:List Int}(h:w.ownsRow B 3 1 v l.length (l.map (Value.int .i64))):IntsR w w.heap.size v l:=by
 have h':=h
 rcases h.2 with ⟨rfl,h0⟩|⟨g,cap,cur,rfl,hB,hg,_⟩
 ·have:l=[]:=List.eq_nil_of_length_eq_zero h0
  subst this
  exact⟨none,0,0,0,rfl,fun h=>absurd h (by simp),fun j hj=>absurd hj (by simp)⟩
 ·refine⟨some ⟨g,0,none⟩,cap,g,0,rfl,fun _=>⟨rfl,(Array.getElem?_eq_some_iff.1 hg).1⟩,fun j hj=>?_⟩
  have:=h'.cells (g:=g) rfl j (.int .i64 (l.getD j 0)) (by simp[List.getD_eq_getElem?_getD,hj])
  rwa[addr_add]at this
theorem cc_get(l:List (Int × Int)):∀j,j<l.length->(cc l)[j*2]?=some (.int .i64 (l.getD j (0,0)).1)/\(cc l)[j*2+1]?=some (.int .i64 (l.getD j (0,0)).2):=by
 induction l with
 | nil=>intro j hj;simp at hj
 | cons a l ih=>
  intro j hj
  have e:cc (a::l)=.int .i64 a.1::.int .i64 a.2::cc l:=by simp[cc]
  rw[e]
  cases j with
  | zero=>simp
  | succ j=>
   have:=ih j (by simpa using hj)
   rw[show(j+1)*2=j*2+1+1 from by omega]
   simpa using this
theorem owns_code{w:World}{B:Nat}{v:Value}{l:List (Int × Int)}(h:w.ownsRow B 56 2 v l.length (cc l)):CodeR w w.heap.size v l:=by
 have h':=h
 rcases h.2 with ⟨rfl,h0⟩|⟨g,cap,cur,rfl,hB,hg,_⟩
 ·have:l=[]:=List.eq_nil_of_length_eq_zero h0
  subst this
  exact⟨none,0,0,0,rfl,fun h=>absurd h (by simp),fun j hj=>absurd hj (by simp)⟩
 ·refine⟨some ⟨g,0,none⟩,cap,g,0,rfl,fun _=>⟨rfl,(Array.getElem?_eq_some_iff.1 hg).1⟩,fun j hj=>?_⟩
  have hc:=cc_get l j hj
  have h1:=h'.cells (g:=g) rfl _ _ hc.1
  have h2:=h'.cells (g:=g) rfl _ _ hc.2
  rw[addr_add]at h1 h2
  exact⟨h1,by simpa[Nat.add_assoc]using h2⟩
theorem FnAt.reads{w:World}{B:Nat}{f:Pu.Fn}{x:FV}(h:FnAt w B f x):FnR w w.heap.size x f:=
 ⟨owns_ints h.p,owns_ints h.r,owns_ints h.l,owns_code h.c,owns_len h.p,owns_len h.r,owns_len h.l,owns_len h.c⟩
theorem FnsAt.get{w:World}{B:Nat}:∀{fs:List Pu.Fn} {xs:List FV},FnsAt w B fs xs->∀j,j<fs.length->∃x,(fc xs)[j*4]?=some x.p/\(fc xs)[j*4+1]?=some x.r/\(fc xs)[j*4+2]?=some x.l/\(fc xs)[j*4+3]?=some x.c/\FnAt w B (fs.getD j ⟨[],[],[],[]⟩) x
 | [],[],_=>fun j hj=>absurd hj (by simp)
 | f::fs,x::xs,h=>fun j hj=>by
  rw[fc_cons]
  cases j with
  | zero=>exact⟨x,by simp[FV.cells],by simp[FV.cells],by simp[FV.cells],by simp[FV.cells],h.1⟩
  | succ j=>
   obtain⟨y,g0,g1,g2,g3,hy⟩:=FnsAt.get h.2 j (by simpa using hj)
   refine⟨y,?_,?_,?_,?_,by simpa using hy⟩
   ·rw[show(j+1)*4=j*4+1+1+1+1 from by omega];simpa[FV.cells]using g0
   ·rw[show(j+1)*4+1=j*4+1+1+1+1+1 from by omega];simpa[FV.cells]using g1
   ·rw[show(j+1)*4+2=j*4+2+1+1+1+1 from by omega];simpa[FV.cells]using g2
   ·rw[show(j+1)*4+3=j*4+3+1+1+1+1 from by omega];simpa[FV.cells]using g3
 | [],_::_,h=>h.elim
 | _::_,[],h=>h.elim
theorem mdAt_reads{w:World}{B:Nat}{m:Pu.Md}{k v:Value}{xs:List FV}(h:MdAt w B m k v xs):MdR w w.heap.size k v m:=by
 refine⟨owns_ints h.hk,?_,owns_len h.hk,owns_len h.hv⟩
 have hv:=h.hv
 rcases hv.2 with ⟨rfl,h0⟩|⟨g,cap,cur,rfl,hB,hg,_⟩
 ·exact⟨none,0,0,0,by rw[h0],fun h=>absurd h (by omega),fun j hj=>absurd hj (by omega)⟩
 ·refine⟨some ⟨g,0,none⟩,cap,g,0,rfl,fun _=>⟨rfl,(Array.getElem?_eq_some_iff.1 hg).1⟩,fun j hj=>?_⟩
  obtain⟨x,g0,g1,g2,g3,hx⟩:=h.hf.get j hj
  have k0:=hv.cells (g:=g) rfl _ _ g0
  have k1:=hv.cells (g:=g) rfl _ _ g1
  have k2:=hv.cells (g:=g) rfl _ _ g2
  have k3:=hv.cells (g:=g) rfl _ _ g3
  rw[addr_add]at k0 k1 k2 k3
  exact⟨x,k0,by simpa[Nat.add_assoc]using k1,by simpa[Nat.add_assoc]using k2,by simpa[Nat.add_assoc]using k3,hx.reads⟩
theorem below_drewN{B:Nat}{a w:World}(h:Below B a w)(n:Nat):Below B a (w.drewN n):=⟨h.os,h.tape,h.output,h.size,h.block⟩
theorem IntsR.heap{w w':World}{B:Nat}{v:Value}{l:List Int}(h:IntsR w B v l)(hh:w'.heap=w.heap):IntsR w' B v l:=by
 obtain⟨ao,cap,b,off,hv,h1,h2⟩:=h
 refine⟨ao,cap,b,off,hv,h1,fun j hj=>?_⟩
 rw[World.cell?_of_block (w:=w) (by rw[hh])]
 exact h2 j hj
theorem F4.heap{w w':World}{q:Nat}{t:TypeId}{x0 x1 x2 x3:Value}(h:F4 w q t x0 x1 x2 x3)(hh:w'.heap=w.heap):F4 w' q t x0 x1 x2 x3:=by unfold F4;rw[hh];exact h
theorem F2.heap{w w':World}{q:Nat}{t:TypeId}{x0 x1:Value}(h:F2 w q t x0 x1)(hh:w'.heap=w.heap):F2 w' q t x0 x1:=by unfold F2;rw[hh];exact h
theorem CodeR.heap{w w':World}{B:Nat}{v:Value}{l:List (Int × Int)}(h:CodeR w B v l)(hh:w'.heap=w.heap):CodeR w' B v l:=by
 obtain⟨ao,cap,b,off,hv,h1,h2⟩:=h
 refine⟨ao,cap,b,off,hv,h1,fun j hj=>?_⟩
 have e:∀p:Addr,w'.cell? p=w.cell? p:=fun p=>World.cell?_of_block (by rw[hh])
 rw[e,e]
 exact h2 j hj
theorem FnR.heap{w w':World}{B:Nat}{x:FV}{f:Pu.Fn}(h:FnR w B x f)(hh:w'.heap=w.heap):FnR w' B x f:=
 ⟨h.p.heap hh,h.r.heap hh,h.l.heap hh,h.c.heap hh,h.np,h.nr,h.nl,h.nc⟩
theorem two_allocs(w:World)(a b:Array Value)(t:TypeId):((w.alloc (.cells a t)).alloc (.cells b t)).heap[w.heap.size]?=some (.cells a t (0,0))/\((w.alloc (.cells a t)).alloc (.cells b t)).heap[w.heap.size+1]?=some (.cells b t (0,0)):=by
 constructor
 ·rw[Below.heap_alloc _ _ _ (by simp)];exact heap_alloc_new w _
 ·have:=heap_alloc_new (w.alloc (.cells a t)) (.cells b t);simpa using this
theorem sameInts_same(l:List Int)(v v':Value)(B:Nat)(w:World)(h:IntsR w B v l)(h':IntsR w B v' l)(hl:l.length<=maxLen):
  Calls Tryz.prog 43 #[v,v'] w fun e w'=>e=.returned (.bool true)/\Below B w w'/\w'.heap=w.heap:=by
 obtain⟨ao,cap,b,off,rfl,h1,h2⟩:=h
 obtain⟨ao',cap',b',off',rfl,h1',h2'⟩:=h'
 have H1:Hid _:=h1
 have H2:Hid _:=h2
 have H1':Hid _:=h1'
 have H2':Hid _:=h2'
 clear h1 h2 h1' h2'
 unfold maxLen at hl
 go_enter Tryz.func43,Tryz.ntmps43
 go_wp2
 go_loopw [5] (fun i wr=>∃k:Nat,k<=l.length/\i=.int .i64 k/\Below B w wr/\wr.heap=w.heap) (fun i _=>l.length-(intOf i).toNat)
 case atStart=>exact⟨0,Nat.zero_le _,rfl,Below.refl _ _,rfl⟩
 case round=>
  obtain⟨k,hk,rfl,hb,hh⟩:=hrel
  have HH:Hid _:=hh
  clear hh
  by_cases hlt:k<l.length
  ·obtain⟨rfl,hbB⟩:=H1.out (by omega)
   obtain⟨rfl,hbB'⟩:=H1'.out (by omega)
   have c1:=(hb.cell (p:=⟨b,off+k,none⟩) hbB).trans (H2.out k hlt)
   have c2:=(hb.cell (p:=⟨b',off'+k,none⟩) hbB').trans (H2'.out k hlt)
   generalize l.getD k 0=x at *
   go_wp2
   go_quiet (fail)
   go_wp2
   go_roundw
   case rel=>exact⟨k+1,hlt,by go_num,below_drewN hb _,HH.out⟩
   case measure=>simp[intOf];omega
  ·go_wp2
   go_ret
   exact⟨rfl,hb,HH.out⟩
theorem sameCode_same(l:List (Int × Int))(v v':Value)(B:Nat)(w:World)(h:CodeR w B v l)(h':CodeR w B v' l)(hl:l.length<=maxLen):
  Calls Tryz.prog 69 #[v,v'] w fun e w'=>e=.returned (.bool true)/\Below B w w'/\w'.heap=w.heap:=by
 obtain⟨ao,cap,b,off,rfl,h1,h2⟩:=h
 obtain⟨ao',cap',b',off',rfl,h1',h2'⟩:=h'
 have H1:Hid _:=h1
 have H2:Hid _:=h2
 have H1':Hid _:=h1'
 have H2':Hid _:=h2'
 clear h1 h2 h1' h2'
 unfold maxLen at hl
 go_enter Tryz.func69,Tryz.ntmps69
 go_wp2
 go_loopw [5] (fun i wr=>∃k:Nat,k<=l.length/\i=.int .i64 k/\Below B w wr/\wr.heap=w.heap) (fun i _=>l.length-(intOf i).toNat)
 case atStart=>exact⟨0,Nat.zero_le _,rfl,Below.refl _ _,rfl⟩
 case round=>
  obtain⟨k,hk,rfl,hb,hh⟩:=hrel
  have HH:Hid _:=hh
  clear hh
  by_cases hlt:k<l.length
  ·obtain⟨rfl,hbB⟩:=H1.out (by omega)
   obtain⟨rfl,hbB'⟩:=H1'.out (by omega)
   have c1:=(hb.cell (p:=⟨b,off+k*2,none⟩) hbB).trans (H2.out k hlt).1
   have c2:=(hb.cell (p:=⟨b,off+k*2+1,none⟩) hbB).trans (H2.out k hlt).2
   have c3:=(hb.cell (p:=⟨b',off'+k*2,none⟩) hbB').trans (H2'.out k hlt).1
   have c4:=(hb.cell (p:=⟨b',off'+k*2+1,none⟩) hbB').trans (H2'.out k hlt).2
   generalize l.getD k (0,0)=x at *
   go_wp2
   go_quiet (fail)
   go_wp2
   go_roundw
   case rel=>exact⟨k+1,hlt,by go_num,below_drewN hb _,HH.out⟩
   case measure=>simp[intOf];omega
  ·go_wp2
   go_ret
   exact⟨rfl,hb,HH.out⟩
theorem sameFunc_same(f:Pu.Fn)(x x':FV)(w:World)(h:FnR w w.heap.size x f)(h':FnR w w.heap.size x' f):
  Calls Tryz.prog 44 #[.agg #[x.p,x.r,x.l,x.c],.agg #[x'.p,x'.r,x'.l,x'.c]] w fun e w'=>e=.returned (.bool true)/\Below w.heap.size w w':=by
 obtain⟨x1,y1,x2,y2,x3,y3,x4,y4,rfl⟩:=h.shape
 obtain⟨x1',y1',x2',y2',x3',y3',x4',y4',rfl⟩:=h'.shape
 obtain⟨W0,hW0⟩:∃W0,W0=(w.alloc (.cells #[.slice x1 f.params.length y1,.slice x2 f.results.length y2,.slice x3 f.locals.length y3,.slice x4 f.code.length y4] 62)).alloc (.cells #[.slice x1' f.params.length y1',.slice x2' f.results.length y2',.slice x3' f.locals.length y3',.slice x4' f.code.length y4'] 62):=⟨_,rfl⟩
 have hbW:Below w.heap.size w W0:=by rw[hW0];exact((Below.refl _ _).alloc (Nat.le_refl _) _).alloc (by simp) _
 have p0W:F4 W0 w.heap.size 62 (.slice x1 f.params.length y1) (.slice x2 f.results.length y2) (.slice x3 f.locals.length y3) (.slice x4 f.code.length y4):=by rw[hW0];exact(two_allocs w _ _ _).1
 have p1W:F4 W0 (w.heap.size+1) 62 (.slice x1' f.params.length y1') (.slice x2' f.results.length y2') (.slice x3' f.locals.length y3') (.slice x4' f.code.length y4'):=by rw[hW0];exact(two_allocs w _ _ _).2
 have hfW:=h.below hbW
 have hfW':=h'.below hbW
 have HW:Hid _:=hW0
 clear hW0 h h'
 go_enter Tryz.func44,Tryz.ntmps44
 go_wp2_with fail
 rw[<-HW.out]
 clear HW
 refine(sameInts_same f.params _ _ _ _ hfW.p hfW'.p hfW.np).mono ?_
 rintro e w2 ⟨rfl,hb2,hh2⟩
 have hbW2:=hbW.trans hb2
 have HH2:Hid _:=hh2
 clear hh2 hb2 hbW
 have p02:=p0W.heap HH2.out
 have p12:=p1W.heap HH2.out
 have d0:=p02.c1
 have d1:=p12.c1
 go_wp2_with fail
 clear d0 d1 p02 p12
 refine(sameInts_same f.results _ _ _ _ (hfW.r.heap HH2.out) (hfW'.r.heap HH2.out) hfW.nr).mono ?_
 rintro e w3 ⟨rfl,hb3,hh3⟩
 have hbW3:=hbW2.trans hb3
 have HH3:Hid _:=hh3.trans HH2.out
 clear hh3 hb3 hbW2 HH2
 have p02:=p0W.heap HH3.out
 have p12:=p1W.heap HH3.out
 have d0:=p02.c2
 have d1:=p12.c2
 go_wp2_with fail
 clear d0 d1 p02 p12
 refine(sameInts_same f.locals _ _ _ _ (hfW.l.heap HH3.out) (hfW'.l.heap HH3.out) hfW.nl).mono ?_
 rintro e w4 ⟨rfl,hb4,hh4⟩
 have hbW4:=hbW3.trans hb4
 have HH4:Hid _:=hh4.trans HH3.out
 clear hh4 hb4 hbW3 HH3
 have p02:=p0W.heap HH4.out
 have p12:=p1W.heap HH4.out
 have d0:=p02.c3
 have d1:=p12.c3
 go_wp2_with fail
 clear d0 d1 p02 p12
 refine(sameCode_same f.code _ _ _ _ (hfW.c.heap HH4.out) (hfW'.c.heap HH4.out) hfW.nc).mono ?_
 rintro e w5 ⟨rfl,hb5,hh5⟩
 have hbW5:=hbW4.trans hb5
 clear hh5 hb5 hbW4 HH4 p0W p1W hfW hfW'
 go_wp2
 go_ret
 exact⟨rfl,hbW5⟩
theorem sameModule_same(m:Pu.Md)(k v k' v':Value)(w:World)(h:MdR w w.heap.size k v m)(h':MdR w w.heap.size k' v' m):
  Calls Tryz.prog 24 #[.agg #[k,v],.agg #[k',v']] w fun e w'=>e=.returned (.bool true)/\Below w.heap.size w w':=by
 obtain⟨a1,c1,rfl⟩:=h.k.shape
 obtain⟨a1',c1',rfl⟩:=h'.k.shape
 have hnf:=h.nf
 unfold maxLen at hnf
 have hv:=h.v
 have hv':=h'.v
 obtain⟨ao,cap,b,off,rfl,h1,h2⟩:=hv
 obtain⟨ao',cap',b',off',rfl,h1',h2'⟩:=hv'
 have H1:Hid _:=h1
 have H2:Hid _:=h2
 have H1':Hid _:=h1'
 have H2':Hid _:=h2'
 clear h1 h2 h1' h2'
 obtain⟨W0,hW0⟩:∃W0,W0=(w.alloc (.cells #[.slice a1 m.kinds.length c1,.slice ao m.funcs.length cap] 38)).alloc (.cells #[.slice a1' m.kinds.length c1',.slice ao' m.funcs.length cap'] 38):=⟨_,rfl⟩
 have hb0:Below w.heap.size w W0:=by rw[hW0];exact((Below.refl w.heap.size w).alloc (Nat.le_refl _) _).alloc (by simp) _
 have x0:F2 W0 w.heap.size 38 (.slice a1 m.kinds.length c1) (.slice ao m.funcs.length cap):=by rw[hW0];exact(two_allocs w _ _ _).1
 have x1:F2 W0 (w.heap.size+1) 38 (.slice a1' m.kinds.length c1') (.slice ao' m.funcs.length cap'):=by rw[hW0];exact(two_allocs w _ _ _).2
 have hk0:=h.k.below hb0
 have hk0':=h'.k.below hb0
 have hnk:=h.nk
 have HW:Hid _:=hW0
 clear h h' hW0
 go_enter Tryz.func24,Tryz.ntmps24
 go_wp2_with fail
 rw[<-HW.out]
 clear HW
 refine(sameInts_same m.kinds _ _ _ _ hk0 hk0' hnk).mono ?_
 rintro e w1 ⟨rfl,hbn,hh⟩
 have hb1:=hb0.trans hbn
 have y0:=x0.heap hh
 have y1:=x1.heap hh
 clear hb0 x0 x1 hk0 hk0' hbn hh
 have d0:=y0.c1
 have d1:=y1.c1
 go_wp2
 clear d0 d1
 go_loopw [6] (fun i wr=>∃k:Nat,k<=m.funcs.length/\i=.int .i64 k/\Below w.heap.size w wr/\F2 wr w.heap.size 38 (.slice a1 m.kinds.length c1) (.slice ao m.funcs.length cap)/\F2 wr (w.heap.size+1) 38 (.slice a1' m.kinds.length c1') (.slice ao' m.funcs.length cap')) (fun i _=>m.funcs.length-(intOf i).toNat)
 case atStart=>exact⟨0,Nat.zero_le _,rfl,hb1,y0,y1⟩
 case round=>
  obtain⟨k,hk,rfl,hb,z0,z1⟩:=hrel
  clear hb1 y0 y1
  have d0:=z0.c1
  have d1:=z1.c1
  have s1:=z1.lt
  have s0:=z0.lt
  by_cases hlt:k<m.funcs.length
  ·obtain⟨rfl,hbB⟩:=H1.out (by omega)
   obtain⟨rfl,hbB'⟩:=H1'.out (by omega)
   obtain⟨x,g0,g1,g2,g3,hx⟩:=H2.out k hlt
   obtain⟨x',g0',g1',g2',g3',hx'⟩:=H2'.out k hlt
   obtain⟨x1,y1,x2,y2,x3,y3,x4,y4,rfl⟩:=hx.shape
   obtain⟨x1',y1',x2',y2',x3',y3',x4',y4',rfl⟩:=hx'.shape
   have k0:=(hb.cell (p:=⟨b,off+k*4,none⟩) hbB).trans g0
   have k1:=(hb.cell (p:=⟨b,off+k*4+1,none⟩) hbB).trans g1
   have k2:=(hb.cell (p:=⟨b,off+k*4+2,none⟩) hbB).trans g2
   have k3:=(hb.cell (p:=⟨b,off+k*4+3,none⟩) hbB).trans g3
   have k0':=(hb.cell (p:=⟨b',off'+k*4,none⟩) hbB').trans g0'
   have k1':=(hb.cell (p:=⟨b',off'+k*4+1,none⟩) hbB').trans g1'
   have k2':=(hb.cell (p:=⟨b',off'+k*4+2,none⟩) hbB').trans g2'
   have k3':=(hb.cell (p:=⟨b',off'+k*4+3,none⟩) hbB').trans g3'
   have hf:FnR wr.drew wr.drew.heap.size _ _:=((hx.below hb).wide (Nat.le_of_lt s0)).heap rfl
   have hf':FnR wr.drew wr.drew.heap.size _ _:=((hx'.below hb).wide (Nat.le_of_lt s0)).heap rfl
   clear g0 g1 g2 g3 g0' g1' g2' g3' hx hx'
   generalize m.funcs.getD k ⟨[],[],[],[]⟩=f at *
   simp only at *
   have s2:b<wr.heap.size:=by omega
   have s3:b'<wr.heap.size:=by omega
   go_wp2_with fail
   go_region_held3 (fun w'=>w'.cell? ⟨w.heap.size,1,none⟩=some (.slice (some ⟨b,off,none⟩) m.funcs.length cap)/\w'.cell? ⟨w.heap.size+1,1,none⟩=some (.slice (some ⟨b',off',none⟩) m.funcs.length cap')/\w'.cell? ⟨b,off+k*4,none⟩=some (.slice x1 f.params.length y1)/\w'.cell? ⟨b,off+k*4+1,none⟩=some (.slice x2 f.results.length y2)/\w'.cell? ⟨b,off+k*4+2,none⟩=some (.slice x3 f.locals.length y3)/\w'.cell? ⟨b,off+k*4+3,none⟩=some (.slice x4 f.code.length y4)/\w'.cell? ⟨b',off'+k*4,none⟩=some (.slice x1' f.params.length y1')/\w'.cell? ⟨b',off'+k*4+1,none⟩=some (.slice x2' f.results.length y2')/\w'.cell? ⟨b',off'+k*4+2,none⟩=some (.slice x3' f.locals.length y3')/\w'.cell? ⟨b',off'+k*4+3,none⟩=some (.slice x4' f.code.length y4'))
    (first|exact⟨d0,d1,k0,k1,k2,k3,k0',k1',k2',k3'⟩|exact⟨(hb3.cell (p:=⟨w.heap.size,1,none⟩) s0).trans d0,(hb3.cell (p:=⟨w.heap.size+1,1,none⟩) s1).trans d1,(hb3.cell (p:=⟨b,off+k*4,none⟩) s2).trans k0,(hb3.cell (p:=⟨b,off+k*4+1,none⟩) s2).trans k1,(hb3.cell (p:=⟨b,off+k*4+2,none⟩) s2).trans k2,(hb3.cell (p:=⟨b,off+k*4+3,none⟩) s2).trans k3,(hb3.cell (p:=⟨b',off'+k*4,none⟩) s3).trans k0',(hb3.cell (p:=⟨b',off'+k*4+1,none⟩) s3).trans k1',(hb3.cell (p:=⟨b',off'+k*4+2,none⟩) s3).trans k2',(hb3.cell (p:=⟨b',off'+k*4+3,none⟩) s3).trans k3'⟩)
    ((go_at_call 44;refine(sameFunc_same f ⟨.slice x1 f.params.length y1,.slice x2 f.results.length y2,.slice x3 f.locals.length y3,.slice x4 f.code.length y4⟩ ⟨.slice x1' f.params.length y1',.slice x2' f.results.length y2',.slice x3' f.locals.length y3',.slice x4' f.code.length y4'⟩ _ hf hf').mono ?_;rintro e w3 ⟨rfl,hb3⟩))
   have hbw3:Below w.heap.size w w3:=hb.drew.trans (hb3.mono (Nat.le_of_lt s0))
   have z03:F2 w3 w.heap.size 38 (.slice a1 m.kinds.length c1) (.slice (some ⟨b,off,none⟩) m.funcs.length cap):=(hb3.block w.heap.size s0).trans z0
   have z13:F2 w3 (w.heap.size+1) 38 (.slice a1' m.kinds.length c1') (.slice (some ⟨b',off',none⟩) m.funcs.length cap'):=(hb3.block (w.heap.size+1) s1).trans z1
   clear hb hb3 z0 z1 k0 k1 k2 k3 k0' k1' k2' k3' d0 d1 hf hf'
   go_wp2
   go_roundw
   case rel=>exact⟨k+1,hlt,by go_num,hbw3,z03,z13⟩
   case measure=>simp[intOf];omega
  ·go_wp2
   go_ret
   exact⟨rfl,hb⟩
end Go.Proofs.YtjamgmbdilkbcaaGreat
