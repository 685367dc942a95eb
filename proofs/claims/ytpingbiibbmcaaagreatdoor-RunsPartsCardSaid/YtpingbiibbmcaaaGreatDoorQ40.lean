/- Laws that the last text leans on. -/
import Derived.Test.YtpingbiibbmcaaaGreatDoorQ39
import Derived.DeepKeys4
import Derived.ChangeKeys

set_option maxRecDepth 20000
set_option maxHeartbeats 8000000
namespace Go.Proofs.YtpingbiibbmcaaaGreatDoor
namespace Ru
open Go Go.RowKit Go.Maps Go.WideMaps Rw YtpingbiibbmcaaaGreatDoor.So Se Tr Mn Do Sp Me St
theorem cl_of {ok:Nat→Prop} {w:World}:∀ {cs:List Value} {ts:List Tr},TrCO ok w cs ts→Cl (ET ok w) 2 ts cs
  | [],[],_=>rfl
  | a::e::cs,t::ts,h=>⟨⟨a,by rw [h.2.1]; rfl,h.1⟩,cl_of h.2.2⟩
  | [],_::_,h=>h.elim
  | [_],[],h=>h.elim
  | [_],_::_,h=>h.elim
  | _::_::_,[],h=>h.elim
theorem lawS:Keyed Tryz.prog 9:=string_keyed Tryz.underlying9
def Kn (ok:Nat→Prop) (w:World) (key val:Value):Prop:=∃ l,key=.string (keyS l)∧errR l=0∧TsO ok w val (MtR l)
structure Env (ok:Nat→Prop) (w:World) (K M E:Nat):Prop where
  k:w.cell? ⟨K,0,none⟩=some (.map (some M))
  e:w.cell? ⟨E,0,none⟩=some (.func (.func 80) #[] #[.pointer (some ⟨K,0,none⟩),.pointer (some ⟨E,0,none⟩)])
  m:Mg.Fine Tryz.prog 9 w M (Kn ok w)
theorem Env.below {ok:Nat→Prop} {w w':World} {K M E:Nat} (h:Env ok w K M E) (hb:Below w.heap.size w w'):Env ok w' K M E:=
  ⟨kc hb h.k,kc hb h.e,(h.m.below hb h.m.lt).imp fun _ _ ⟨l,h1,h2,h3⟩=>⟨l,h1,h2,h3.below hb⟩⟩
def ExP (ok:Nat→Prop) (K M E:Nat) (l:List Nd) (w:World) (e:Ending) (w':World):Prop:=∃ y,e=.returned y∧TsO ok w' y (MtR l)∧Env ok w' K M E∧w.grownBy w' (some M)
def ExC (K M E n:Nat):Prop:=∀ (ok:Nat→Prop) (v:Value) (l:List Nd) (w:World),(∀ b,w.heap.size≤b→ok b)→Env ok w K M E→Nds w v l→errR l=0→cnt l wK<n→
  Calls Tryz.prog 80 #[v,.pointer (some ⟨K,0,none⟩),.pointer (some ⟨E,0,none⟩)] w (ExP ok K M E l w)
theorem z8c {l:List Nd}:Se.overB l=endB l∧(endB l=true→Se.overS l=sgn l):=by
  match l with
  | []=>exact ⟨rfl,fun h=>by cases h⟩
  | [x]=>
    have e1:endB [x]=(x.k==11):=Bool.true_and _;refine ⟨e1.symm,fun h=>?_⟩;rw [e1] at h
    show (if x.k==11 then x.s else 0)=x.s
    rw [if_pos h]
  | x::y::t=>exact ⟨rfl,fun h=>by
      have:endB (x::y::t)=false:=by unfold endB; simp
      rw [this] at h
      cases h⟩
theorem y0l {l:List Nd} (h:errR l=0):l.length≤24∧Nms l∧l≠[]∧l.all rgt=true:=by
  have hr:=x0j h;have h2:=(z5w (z1r.1 h).2.2).1;obtain ⟨t,rfl,hg,_⟩:=z0k.1 (z1r.1 h).2.1;exact ⟨h2,z2c hg.1,fun e=>by have:=congrArg List.length e; rw [Se.flat_len] at this; have:=z0e t; simp at *; omega,hr⟩
structure Acc (ok:Nat→Prop) (w0 wr:World) (K M E:Nat) (o:Value) (acc:List Tr):Prop where
  own:∃ cs,wr.ownsRow w0.heap.size 33 2 o acc.length cs∧Cl (ET (Apart (fun b=>w0.heap.size≤b) o) wr) 2 acc cs
  env:Env (Apart ok o) wr K M E
  by':w0.grownBy wr (some M)
  lt:M<w0.heap.size∧K<w0.heap.size∧E<w0.heap.size
theorem rdo_by {ok:Nat→Prop} {w w':World} {g size n:Nat} {v:Value} {cs:List Value} (h:Ap.RdO ok w size v n cs) (hn:∀ b,ok b→b≠g) (hm:w.grownBy w' (some g)):Ap.RdO ok w' size v n cs:=by
  obtain ⟨hl,a,cap,hv,hc,hn',hcell⟩:=h;refine ⟨hl,a,cap,hv,hc,hn',fun h0=>?_⟩;obtain ⟨b,off,ha,ho,hlt,hj⟩:=hcell h0;exact ⟨b,off,ha,ho,Nat.lt_of_lt_of_le hlt hm.size,fun j u hu=>by rw [World.cell?_of_block (hm.block _ hlt (fun e=>hn b ho (Option.some.inj e)))]; exact hj j u hu⟩
theorem y6c {w:World} {base size n:Nat} {e:TypeId} {v:Value} {xs:List Value} (h:w.ownsRow base e size v n xs) (g:Nat) (hg:g<base):v.ownBlock≠some g:=fun e1=>by
  obtain ⟨h1,_⟩:=y3g h g e1.symm;omega
theorem Acc.below {ok:Nat→Prop} {w0 wr wr':World} {K M E:Nat} {o:Value} {acc:List Tr} (h:Acc ok w0 wr K M E o acc) (hb:Below wr.heap.size wr wr'):Acc ok w0 wr' K M E o acc:=by
  obtain ⟨cs,h1,h2⟩:=h.own;exact ⟨⟨cs,Ap.own_below h1 hb,h2.imp (ET.map fun _ _ h=>Ap.RdO.below h hb)⟩,h.env.below hb,z0j h.by' (grown_of hb),h.lt⟩
theorem Acc.call {ok:Nat→Prop} {w0 wr wr':World} {K M E:Nat} {o:Value} {acc:List Tr} (h:Acc ok w0 wr K M E o acc) (hE:Env (Apart ok o) wr' K M E) (hg:wr.grownBy wr' (some M)):Acc ok w0 wr' K M E o acc:=by
  obtain ⟨cs,h1,h2⟩:=h.own;have hne:=y6c h1 M h.lt.1;exact ⟨⟨cs,h1.kept hg (.inr hne),h2.imp (ET.map fun _ _ k=>rdo_by k (fun b hb e=>by have:=hb.1; have:=h.lt.1; omega) hg)⟩,hE,z0j h.by' hg,h.lt⟩
theorem Acc.add {ok:Nat→Prop} {w0 wr:World} {K M E:Nat} {o a:Value} {acc:List Tr} {t:Tr} (h:Acc ok w0 wr K M E o acc) (ha:StrsO (Apart (fun b=>w0.heap.size≤b) o) wr a t.a) (hlen:acc.length≤1000000000000) :
    ∃ v' w',(Builtin.append_ #[43,43] 43 #[o,.slice (some ⟨wr.heap.size,0,none⟩) 1 1]).run Tryz.prog (wr.alloc (.cells #[a,.int .i64 t.e] 33))=.ok v' w'∧Acc ok w0 w' K M E v' (acc++[t])∧
      (∀ no x L,TsO (Apart no o) wr x L→TsO (Apart no v') w' x L)∧(∀ no x L,StrsO (Apart no o) wr x L→StrsO (Apart no v') w' x L)∧wr.grownBy w' o.ownBlock∧Ap.Fresh wr o v':=by
  obtain ⟨cs,h1,h2⟩:=h.own;have hs:=h.by'.size
  obtain ⟨v',w',r1,r2,r3,r4,r5⟩:=z9c h1 hs (Ap.RdO.rd ha) (by omega);have hK:=y6c h1 K h.lt.2.1;have hE:=y6c h1 E h.lt.2.2;have hM:=y6c h1 M h.lt.1;refine ⟨v',w',r1,⟨⟨_,r2,Cl.append ET.len (Cl.one ⟨a,rfl,z7l ha r3 r5⟩ rfl) (h2.imp (ET.map fun _ _ k=>z7l k r3 r5))⟩,⟨?_,?_,?_⟩,?_,h.lt⟩,fun no x L k=>k.grow r3 r5,fun no x L k=>z7l k r3 r5,r3,r5⟩
  · rw [World.cell?_of_block (r3.block _ (Ap.z0a h.env.k) (fun e=>hK e.symm))];exact h.env.k
  · rw [World.cell?_of_block (r3.block _ (Ap.z0a h.env.e) (fun e=>hE e.symm))];exact h.env.e
  · exact (h.env.m.kept r3 (fun e=>hM e.symm)).imp fun x y ⟨l,k1,k2,k3⟩=>⟨l,k1,k2,k3.grow r3 r5⟩
  · exact ⟨r3.os.trans h.by'.os,r3.tape.trans h.by'.tape,r3.output.trans h.by'.output,Nat.le_trans hs r3.size,fun k hk hn=>(r3.block k (Nat.lt_of_lt_of_le hk hs) (fun e=>y6c h1 k hk e.symm)).trans (h.by'.block k hk hn)⟩
theorem Env.look {ok:Nat→Prop} {w:World} {K M E:Nat} (h:Env ok w K M E) {l:List Nd} (he:errR l=0) (hs:(keyS l).size≤maxLen):∃ u bb,(Instr.lookup 110 (.map (some M)) (.string (keyS l)) true).run Tryz.prog w=.ok (.tuple #[u,.bool bb]) w∧(bb=true→TsO ok w u (MtR l)):=by
  rcases h.m.look lawS Tryz.underlying110 (z:=.slice none 0 0) (by kernel_rfl) (keyOf_string_mk Tryz.underlying9 hs) with h1 | ⟨v,⟨l',h2,h3,h4⟩,h1⟩
  · exact ⟨_,false,h1,fun h=>by cases h⟩
  · refine ⟨v,true,h1,fun _=>?_⟩;injection h2 with h2;rw [x2l he h3 h2];exact h4
theorem x2j {l:List Nd} (h:errR l=0):(keyS l).size≤maxLen:=by
  obtain ⟨h24,_,_,hr⟩:=y0l h;have h1:=v1i (l:=l) fun x hx=>rgt_name (by rw [List.all_eq_true] at hr; exact hr x hx)
  have:(keyS l).size=(keyL l).length:=by simp [keyS,ByteArray.size]
  unfold maxLen;omega
theorem rdo_ck {ok:Nat→Prop} {w w':World} {size n:Nat} {v:Value} {cs:List Value} (h:Ap.RdO ok w size v n cs) (hk:Ck w w') (hs:w.heap.size≤w'.heap.size):Ap.RdO ok w' size v n cs:=by
  obtain ⟨hl,a,cap,hv,hc,hn',hcell⟩:=h;refine ⟨hl,a,cap,hv,hc,hn',fun h0=>?_⟩;obtain ⟨b,off,ha,ho,hlt,hj⟩:=hcell h0;exact ⟨b,off,ha,ho,Nat.lt_of_lt_of_le hlt hs,fun j u hu=>hk _ _ (hj j u hu)⟩
theorem tso_ck {ok:Nat→Prop} {w w':World} {v:Value} {l:List Tr} (h:TsO ok w v l) (hk:Ck w w') (hs:w.heap.size≤w'.heap.size):TsO ok w' v l:=by
  obtain ⟨cs,h1,h2⟩:=h;exact ⟨cs,rdo_ck h1 hk hs,h2.imp (ET.map fun _ _ h=>rdo_ck h hk hs)⟩
theorem Env.imp {ok ok':Nat→Prop} {w:World} {K M E:Nat} (h:Env ok w K M E) (hi:∀ b,ok b→ok' b):Env ok' w K M E:=
  ⟨h.k,h.e,h.m.imp fun _ _ ⟨l,h1,h2,h3⟩=>⟨l,h1,h2,h3.imp fun b _ h=>hi b h⟩⟩
theorem Env.put {ok:Nat→Prop} {w:World} {K M E:Nat} (h:Env ok w K M E) {l:List Nd} {v:Value} (he:errR l=0) (hs:(keyS l).size≤maxLen) (hv:TsO ok w v (MtR l)) :
    ∃ w',(Instr.mapUpdate 110 (.map (some M)) (.string (keyS l)) v).run Tryz.prog w=.ok () w'∧Env ok w' K M E∧w.grownBy w' (some M)∧TsO ok w' v (MtR l):=by
  obtain ⟨w',h1,h2,h3⟩:=h.m.put lawS Tryz.underlying110 (keyOf_string_mk Tryz.underlying9 hs) (val:=v) ⟨l,rfl,he,hv⟩;have hk:=Ck.of_fine h.m h3;exact ⟨w',h1,⟨hk _ _ h.k,hk _ _ h.e,h2.imp fun x y ⟨l,k1,k2,k3⟩=>⟨l,k1,k2,tso_ck k3 hk h3.size⟩⟩,h3,tso_ck hv hk h3.size⟩
theorem v2j {α β:Type} (f:α→List β) (m:Nat):∀ l:List α,(∀ x∈l,(f x).length≤m)→(l.flatMap f).length≤l.length*m
  | [],_=>by simp
  | x::l,h=>by
    have h1:=h x (by simp);have h2:=v2j f m l fun y hy=>h y (by simp [hy])
    simp only [List.flatMap_cons,List.length_append,List.length_cons,Nat.succ_mul];omega
structure In (ok:Nat→Prop) (w0 wr:World) (K M E:Nat) (o:Value) (acc:List Tr) (B:Nat) (d y:Value) (D:List ByteArray) (T:List Tr):Prop where
  acc:Acc ok w0 wr K M E o acc
  its:TsO (Apart ok o) wr y T
  did:StrsO (Apart (fun b=>w0.heap.size≤b) o) wr d D
  ce:wr.cell? ⟨B,1,none⟩=some d
  ne:some B≠o.ownBlock
theorem In.below {ok:Nat→Prop} {w0 wr wr':World} {K M E:Nat} {o:Value} {acc:List Tr} {B:Nat} {d y:Value} {D:List ByteArray} {T:List Tr} (h:In ok w0 wr K M E o acc B d y D T) (hb:Below wr.heap.size wr wr'):In ok w0 wr' K M E o acc B d y D T:=
  ⟨h.acc.below hb,h.its.below hb,z7z h.did hb,kc hb h.ce,h.ne⟩
theorem In.add {ok:Nat→Prop} {w0 wr:World} {K M E:Nat} {o:Value} {acc:List Tr} {B:Nat} {d y:Value} {D:List ByteArray} {T:List Tr} (h:In ok w0 wr K M E o acc B d y D T) {a:Value} {t:Tr} (ha:StrsO (Apart (fun b=>w0.heap.size≤b) o) wr a t.a) (hlen:acc.length≤1000000000000) :
    ∃ v' w',(Builtin.append_ #[43,43] 43 #[o,.slice (some ⟨wr.heap.size,0,none⟩) 1 1]).run Tryz.prog (wr.alloc (.cells #[a,.int .i64 t.e] 33))=.ok v' w'∧(∃ n a c,v'=.slice a n c)∧In ok w0 w' K M E v' (acc++[t]) B d y D T:=by
  obtain ⟨v',w',r1,r2,r3,r4,r5,r6⟩:=h.acc.add ha hlen;refine ⟨v',w',r1,?_,⟨r2,r3 _ _ _ h.its,r4 _ _ _ h.did,?_,?_⟩⟩
  · obtain ⟨cs,k1,_⟩:=r2.own;obtain ⟨_,a,c,rfl,_⟩:=Ap.Rd.owned k1;exact ⟨_,a,c,rfl⟩
  · rw [World.cell?_of_block (r5.block _ (Ap.z0a h.ce) h.ne)];exact h.ce
  · rcases r6 with e | ⟨k,e,hk⟩
    · rw [e]; exact h.ne
    · rw [e];have:=Ap.z0a h.ce;intro e1
      cases e1
      simp only at this;omega
theorem y7a (K M E n:Nat) (ih:ExC K M E n):ExC K M E (n+1):=by
  intro ok v l w hok hE hv he hn;obtain ⟨h24,hm,hne,hrg⟩:=y0l he;have IH:=Lib.hid ih;have HEn:=Lib.hid (fun w1 (hb:Below w.heap.size w w1)=>Se.z7e v l w1 (hv.below hb));rw [z8c.1] at HEn;have HKY:=Lib.hid (fun w1 (hb:Below w.heap.size w w1)=>y3u v l w1 (hv.below hb) (by omega) hrg hne);have HV:=Lib.hid hv;have HENV:=Lib.hid hE;obtain ⟨_,va,vc,rfl,_⟩:=id hv;have ck:=hE.k;clear ih hv hE;unfold ExP
  cases hq:endB l with
  | true=>
    rw [hq,z8c.2 hq] at HEn;have HM:=Lib.hid (end_mt he hq);generalize sgn l=s at *;clear HKY hq
    go_enter Tryz.func80,Tryz.ntmps80
    go_wp2_with fail;refine (HEn.out _ (Below.refl _ _)).mono ?_;rintro e w1 ⟨rfl,hb1⟩;have D1:=Lib.hid hb1;clear hb1;go_wp2_with fail;go_ret;have k0:(w1.alloc (.cells #[.slice none 0 0,.int .i64 s] 33)).cell? ⟨w1.heap.size,0,none⟩=some (.slice none 0 0):=by simp [go_sem]
    have k1:(w1.alloc (.cells #[.slice none 0 0,.int .i64 s] 33)).cell? ⟨w1.heap.size,1,none⟩=some (.int .i64 s):=by simp [go_sem]
    refine ⟨_,rfl,?_,(HENV.out.below D1.out).below (Rw.z0b _ _),?_⟩
    · rw [HM.out];exact ts_one k0 k1 (hok _ D1.out.size) (x8d _ _)
    · exact (Tu.of (D1.out.trans ((Rw.z0b _ _).mono D1.out.size))).by'
  | false=>
    rw [hq] at HEn;generalize Se.overS l=s at *
    go_enter Tryz.func80,Tryz.ntmps80
    go_wp2_with fail;refine (HEn.out _ (Below.refl _ _)).mono ?_;rintro e w1 ⟨rfl,hb1⟩;have D1:=Lib.hid hb1;have k1:=kc hb1 ck;clear hb1;go_wp2_with fail;have E1:=Lib.hid (HENV.out.below D1.out);have BR:=Lib.hid (Below.refl w1.heap.size w1);have HKS:=x2j he
    go_region_held3 (fun w'=>w'.cell? ⟨K,0,none⟩=some (.map (some M))) (first | exact k1 | exact kc (Below.refl w1.heap.size w1).drew k1 | exact k2 | fail) (first
      | (go_at_call 81
         with_reducible refine (HKY.out _ D1.out.drew).mono ?_
         rintro e w2 ⟨rfl,hb2⟩;have B2:=Lib.hid (BR.out.drew.trans (hb2.mono BR.out.drew.size));have k2:=kc B2.out k1;have E2:=Lib.hid (E1.out.below B2.out);obtain ⟨u,bb,hlk,hkn⟩:=E2.out.look he HKS;have HKN:=Lib.hid hkn;clear hb2 hkn)
      | fail)
    cases bb with
    | true=>
      go_wp2_with fail;go_ret;exact ⟨_,rfl,HKN.out trivial,E2.out,(Tu.of (D1.out.trans (B2.out.mono D1.out.size))).by'⟩
    | false=>
      have hl24:l.length≤1000:=by omega
      have B2':=Lib.hid (D1.out.trans (B2.out.mono D1.out.size));clear HKN;go_wp2_with fail;refine (z2i (.slice va l.length vc) l w2 (HV.out.below B2'.out) hl24 hm).mono ?_;rintro e w3 ⟨ym,rfl,hmv,hb3⟩;have B3:=Lib.hid (B2'.out.trans (hb3.mono B2'.out.size));have E3:=Lib.hid (E2.out.below hb3);have HMV:=Lib.hid hmv;obtain ⟨_,am,cm,rfl,-⟩:=id hmv;clear hmv hb3;go_wp2_with fail;refine (y2e _ (enR l) w3 HMV.out (by have:=z7f l; omega)).mono ?_;rintro e w4 ⟨yE,L,rfl,hTwo,hE4,hb4⟩;have B4:=Lib.hid (B3.out.trans (hb4.mono B3.out.size));have E4:=Lib.hid (E3.out.below hb4);have HL:=Lib.hid hE4;have HEN:=hTwo.enough;obtain ⟨_,aE,cE,rfl,hcE,-⟩:=id hE4
      have A0:Hid (Acc ok w4 w4 K M E (.slice none 0 0) ((L.take 0).flatMap (gM l))):=Lib.hid
        ⟨⟨[],⟨rfl,.inl ⟨rfl,rfl⟩⟩,rfl⟩,⟨E4.out.k,E4.out.e,E4.out.m.imp fun x y ⟨l,k1,k2,k3⟩=>⟨l,k1,k2,k3.imp fun b _ h=>⟨h,fun e=>by cases e⟩⟩⟩,(Tu.refl M w4).by',⟨E4.out.m.lt,Ap.z0a E4.out.k,Ap.z0a E4.out.e⟩⟩
      have hsub:=HEN.sub;have hgs:=(z9w (z1r.1 he).2.1 (z1r.1 he).2.2 (z1r.1 he).1 (x3c (z1r.1 he).2.1 hq)).2
      have hLl:L.length≤48:=by
        rcases hTwo with rfl | ⟨k,hk,_,rfl⟩
        · exact hgs.1
        · simp
      clear hE4 hb4 E3 HMV E1 E2 k1 k2 hlk;go_wp2_with fail
      go_loopw [9,38] (fun o i wr=>∃ (k n:Nat) (a:Option Addr) (c:Nat),k≤L.length∧i=.int .i64 k∧o=.slice a n c∧Hid (Acc ok w4 wr K M E (.slice a n c) ((L.take k).flatMap (gM l)))) (fun _ i _=>L.length-(intOf i).toNat)
      case atStart=>exact ⟨0,0,none,0,Nat.zero_le _,rfl,rfl,A0⟩
      case round=>
        obtain ⟨k,n',ao,co,hk,rfl,rfl,HA⟩:=hrel
        by_cases hlt:k<L.length
        · have hc4:Ck w4 wr:=Ck.of_fine E4.out.m HA.out.by'
          have hLr:=v0r HL.out hc4
          rcases hLr.form with ⟨hz,_⟩ | ⟨eb,eo,ec,hev,_,hat⟩
          · rw [hz] at hlt; simp at hlt
          injection hev with x1 x2 x3;subst x1;subst x3;obtain ⟨m0,m1⟩:=hat k hlt;have hmin:=hsub _ (List.getElem_mem hlt);have hkl:(k:Int)<L.length:=by omega
          have HTK:=Lib.hid (show (L.take (k+1)).flatMap (gM l)=(L.take k).flatMap (gM l)++gM l L[k] by rw [List.take_succ_eq_append_getElem hlt,List.flatMap_append]; simp);obtain ⟨mv,hmv⟩:∃ mv,L[k]=mv:=⟨_,rfl⟩
          rw [hmv] at m0 m1 hmin HTK;clear hmv hat;obtain ⟨hwhy,hgl,hga⟩:=hgs.2 mv hmin;have HNX:=Lib.hid (y3l he hmin);have hless:=(z3y hmin).1
          have HAH:=Lib.hid (fun t=>show thn ⟨didR l mv,1⟩ t=ahN (nxS l mv) t by
            obtain ⟨_,l1,l2⟩:=z3y hmin;unfold didR ahN thn;rw [if_pos rfl]
            by_cases h1:mv.h=1
            · rw [if_pos h1,if_neg (l1 h1)]; rfl
            · rw [if_neg h1,if_pos (l2 h1)]; rfl)
          have HGM:=Lib.hid (show gM l mv=(MtR (nxL l mv)).map (ahN (nxS l mv)) from rfl);have hdl:(didR l mv).length≤1:=by rcases y4h l mv with h | ⟨_,h⟩ <;> rw [h] <;> simp
          have HVr:=Lib.hid (y6d (HV.out.below B4.out) hc4);have HBY:=Lib.hid (fun o=>x3k (.slice va l.length vc) l mv (wr.alloc o) (HVr.out.below (Rw.z0b wr o)) hl24 hm);unfold ByP at HBY;have hcnx:=hless;have hgl':(MtR (nxL l mv)).length≤12079595520:=by rw [HGM.out,List.length_map] at hgl; exact hgl
          have hga':∀ x∈MtR (nxL l mv),x.a.length≤7:=by
            rw [show MtR (nxL l mv)=Mt (nxL l mv) from if_pos hwhy];intro x hx;have:=(z8g hwhy).2 x hx;omega
          have hAC:((L.take k).flatMap (gM l)).length≤579820584960:=by
            have h1:=v2j (gM l) 12079595520 (L.take k) fun x hx=>(hgs.2 x (hsub x (List.mem_of_mem_take hx))).2.1
            have h2:(L.take k).length≤48:=by rw [List.length_take]; omega
            omega
          generalize (L.take k).flatMap (gM l)=AC at *;generalize gM l mv=GM at *;generalize nxL l mv=L2 at *;generalize didR l mv=D2 at *;generalize nxS l mv=sm at *;obtain ⟨mp,mh⟩:=mv;go_wp2_with fail;refine (HBY.out _).mono ?_;rintro e w5 ⟨y',d',rfl,hy',hd',hb5⟩;obtain ⟨_,yb,ybc,rfl,_⟩:=id hy';obtain ⟨_,db,dbc,rfl,_⟩:=id (Ap.RdO.rd hd');have A5:=Lib.hid ((HA.out.below (Rw.z0b wr (.cells #[.int .i64 mp,.int .i64 mh] 71))).below hb5);obtain ⟨W6,hW6⟩:∃ W6,w5.alloc (.cells #[.slice yb L2.length ybc,.slice db D2.length dbc] 75)=W6:=⟨_,rfl⟩
          have T6:Below w5.heap.size w5 W6:=by rw [← hW6]; exact Rw.z0b _ _
          have A6:=Lib.hid (A5.out.below T6);have z0:W6.cell? ⟨w5.heap.size,0,none⟩=some (.slice yb L2.length ybc):=by rw [← hW6]; simp [go_sem]
          have z1:W6.cell? ⟨w5.heap.size,1,none⟩=some (.slice db D2.length dbc):=by rw [← hW6]; simp [go_sem]
          have f6:=A6.out.env.e
          have HC:=Lib.hid (IH.out (Apart ok (.slice ao n' co)) (.slice yb L2.length ybc) L2 W6 (fun b hb=>⟨hok b (by have:=B4.out.size; have:=HA.out.by'.size; have:=A6.out.by'.size; omega),fun e=>by
            obtain ⟨cs,h1,_⟩:=A6.out.own;have:=(y3g h1 b e).2;omega⟩) A6.out.env (hy'.below T6) HNX.out (by omega))
          unfold ExP at HC;have hw5:=hb5.size;have hd7:=Lib.hid (z7z hd' T6);have hacl:(AC).length≤579820584960:=hAC;clear hy' hd' hb5 T6;go_wp2_with fail;refine HC.out.mono ?_;rintro e w7 ⟨y6,rfl,hts,hE7,hg7⟩;obtain ⟨a6,c6,rfl,_⟩:=hts.val;have A7:=Lib.hid (A6.out.call hE7 hg7)
          have hoM:∀ b,some b=(Value.slice ao n' co).ownBlock→b<wr.heap.size:=fun b e=>by
            obtain ⟨cs,h1,_⟩:=HA.out.own;exact (y3g h1 b e).2
          have hMl:=HA.out.lt.1;have hsr:=HA.out.by'.size
          have Q7:Hid (In ok w4 w7 K M E (.slice ao n' co) AC w5.heap.size (.slice db D2.length dbc) (.slice a6 (MtR L2).length c6) D2 (MtR L2)):=Lib.hid
            ⟨A7.out,hts,Ap.RdO.imp (rdo_by hd7.out (fun b hb e=>by
               have h9:wr.heap.size+1≤b:=by simpa using hb
               omega) hg7) (fun b _ hb=>by
              have h9:wr.heap.size+1≤b:=by simpa using hb
              exact ⟨by omega,fun e=>by have:=hoM b e; omega⟩),
             by rw [World.cell?_of_block (hg7.block _ (Ap.z0a z1) (fun e=>by
               have h8:=Option.some.inj e;have h9:wr.heap.size+1≤w5.heap.size:=by simpa using hw5
               simp only at h8;omega))]; exact z1,
             fun e=>by
               have h8:=hoM _ e;have h9:wr.heap.size+1≤w5.heap.size:=by simpa using hw5
               omega⟩
          obtain ⟨TT,hTT⟩:∃ TT,MtR L2=TT:=⟨_,rfl⟩
          rw [hTT] at Q7 HGM hgl' hga' ⊢;have Q0:Hid (In ok w4 w7 K M E (.slice ao n' co) (AC++(TT.take 0).map (ahN sm)) w5.heap.size (.slice db D2.length dbc) (.slice a6 TT.length c6) D2 TT):=Lib.hid (by simpa using Q7.out);clear hts hE7 hg7 HC hTT z0 z1 f6 A6 A7 Q7 hd7 HA A5 hLr HVr HBY hwhy hgl hga hAC m0 m1 IH HNX;go_wp2_with fail
          go_loopw [9,50] (fun o i wr=>∃ (j n:Nat) (a:Option Addr) (c:Nat),j≤TT.length∧i=.int .i64 j∧o=.slice a n c∧Hid (In ok w4 wr K M E (.slice a n c) (AC++(TT.take j).map (ahN sm)) w5.heap.size (.slice db D2.length dbc) (.slice a6 TT.length c6) D2 TT)) (fun _ i _=>TT.length-(intOf i).toNat)
          case atStart=>exact ⟨0,n',ao,co,Nat.zero_le _,rfl,rfl,Q0⟩
          case round=>
            obtain ⟨j,n2,ap,cp,hj,rfl,rfl,HI⟩:=hrel
            by_cases hlt2:j<TT.length
            · obtain ⟨bt,ot,ta,tc,rfl,hst,hcell⟩:=HI.out.its.nth j hlt2;obtain ⟨g0,g1⟩:=hcell _ (grown_of (Below.refl _ _));have hjl:(j:Int)<TT.length:=by omega
              have HTJ:=Lib.hid (show AC++(TT.take (j+1)).map (ahN sm)=(AC++(TT.take j).map (ahN sm))++[ahN sm TT[j]] by rw [List.take_succ_eq_append_getElem hlt2,List.map_append,List.append_assoc]; rfl);have htl:=hga' _ (List.getElem_mem hlt2)
              have hle:(AC++(TT.take j).map (ahN sm)).length≤1000000000000:=by
                rw [List.length_append,List.length_map,List.length_take];omega
              have HTN:=Lib.hid (fun o=>x7x (.slice db D2.length dbc) (.slice ta TT[j].a.length tc) ⟨D2,1⟩ TT[j] (wr.alloc o) (z8x (z7z HI.out.did (Rw.z0b wr o))) (z8x (z7z hst (Rw.z0b wr o))) (by show D2.length+_≤_; omega));rw [HAH.out] at HTN;generalize AC++(TT.take j).map (ahN sm)=AJ at *;generalize TT[j]=tj at *;unfold ThnPost at HTN;have zc:=kc (Rw.z0b wr (.cells #[.slice ta tj.a.length tc,.int .i64 tj.e] 33)) HI.out.ce;clear hcell hst;go_wp2_with fail;refine (HTN.out _).mono ?_;rintro e w8 ⟨v8,rfl,hmine,hb8⟩;have I8:=Lib.hid ((HI.out.below (Rw.z0b wr (.cells #[.slice ta tj.a.length tc,.int .i64 tj.e] 33))).below hb8)
              have hown8:∀ b,some b=(Value.slice ap n2 cp).ownBlock→b<wr.heap.size:=fun b e=>by
                obtain ⟨cs,h1,_⟩:=HI.out.acc.own;exact (y3g h1 b e).2
              have hs8:=HI.out.acc.by'.size
              obtain ⟨v',w9,hrun,⟨n9,a9,c9,rfl⟩,h9⟩:=I8.out.add (a:=v8) (t:=ahN sm tj) (Ap.RdO.imp hmine.1 (fun b _ hb=>by
                have h7:wr.heap.size+1≤b:=by simpa using hb
                exact ⟨by omega,fun e=>by have:=hown8 b e; omega⟩)) hle
              have I9:=Lib.hid h9;obtain ⟨_,a8,c8,rfl,_⟩:=id (Ap.RdO.rd hmine.1);have RUN:=Lib.hid hrun;clear h9 hmine hb8 I8 hrun hown8;go_wp2_with (at_builtin; refine Ap.wpList_append_run (by rfl) (.tmp 54) (.tmp 60) _ _ rfl _ _ rfl rfl _ w9 RUN.out ?_)
              go_roundw
              case rel=>exact ⟨j+1,n9,a9,c9,by omega,by go_num,rfl,by rw [HTJ.out]; exact I9⟩
              case measure=>simp [intOf]; omega
            · have HEQ:Hid (AC++(TT.take j).map (ahN sm)=AC++GM):=Lib.hid (by rw [HGM.out,List.take_of_length_le (by omega)]);have AF:Hid (Acc ok w4 wr K M E (.slice ap n2 cp) ((L.take (k+1)).flatMap (gM l))):=Lib.hid (by rw [HTK.out,← HEQ.out]; exact HI.out.acc);clear HI HTK;go_wp2_with fail
              go_roundw
              case rel=>exact ⟨k+1,n2,ap,cp,by omega,by go_num,rfl,AF⟩
              case measure=>simp [intOf]; omega
        · have HZ:Hid (norm ((L.take k).flatMap (gM l))=MtR l):=Lib.hid (by rw [List.take_of_length_le (by omega)]; exact x6l HEN he hq);have hc4:Ck w4 wr:=Ck.of_fine E4.out.m HA.out.by'
          have HVr:=Lib.hid (y6d (HV.out.below B4.out) hc4)
          have HS:Hid (Calls Tryz.prog 84 #[.slice ao n' co] wr (SetOwn (MtR l) wr)):=by
            obtain ⟨cs,h1,h2⟩:=HA.out.own;have h3:=v2j (gM l) 12079595520 (L.take k) fun x hx=>(hgs.2 x (hsub x (List.mem_of_mem_take hx))).2.1
            have h4:(L.take k).length≤48:=by rw [List.length_take]; omega
            rw [← HZ.out];refine Lib.hid (setF_any _ _ wr ⟨cs,Ap.Rd.owned h1,y4o h2⟩ (by omega) fun t ht=>?_);obtain ⟨x,hx,hxt⟩:=List.mem_flatMap.1 ht;have:=(hgs.2 x (hsub x (List.mem_of_mem_take hx))).2.2 t hxt;omega
          have G4:=Lib.hid (z0j (grown_of (row:=some M) B4.out) HA.out.by');have ER:=Lib.hid (HA.out.env.imp fun b h=>h.1);have hsr:=G4.out.size;clear HA HZ hgs hsub hLl HL HEN hTwo A0 hc4;unfold SetOwn at HS;go_wp2_with fail;refine HS.out.mono ?_;rintro e w9 ⟨v9,cs9,rfl,hr9,hc9,hb9⟩;obtain ⟨_,a9,c9,rfl,_⟩:=id (Ap.RdO.rd hr9);have T9:Hid (TsO ok w9 (.slice a9 (MtR l).length c9) (MtR l)):=Lib.hid (TsO.imp (ok:=fun b=>wr.heap.size≤b) ⟨cs9,hr9,cl_of hc9⟩ fun b _ h=>hok b (Nat.le_trans hsr h));have E9:=Lib.hid (ER.out.below hb9);have G9:=Lib.hid (z0j G4.out (grown_of hb9));have HK9:=Lib.hid (fun w1 (hb:Below w9.heap.size w9 w1)=>y3u (.slice va l.length vc) l w1 ((HVr.out.below hb9).below hb) (by omega) hrg hne);have BR9:=Lib.hid (Below.refl w9.heap.size w9);have k9:=E9.out.k;clear hr9 hc9 hb9 HS;go_wp2_with fail
          go_region_held3 (fun w'=>w'.cell? ⟨K,0,none⟩=some (.map (some M))) (first | exact k9 | exact kc (Below.refl w9.heap.size w9).drew k9 | exact k10 | exact k11 | fail) (first
            | (go_at_call 81
               with_reducible refine (HK9.out _ BR9.out.drew).mono ?_
               rintro e w10 ⟨rfl,hb10⟩;have B10:=Lib.hid (BR9.out.drew.trans (hb10.mono BR9.out.drew.size));have k10:=kc B10.out k9;have E10:=Lib.hid (E9.out.below B10.out);obtain ⟨w11,hput,h11,hg11,ht11⟩:=E10.out.put he HKS (T9.out.below B10.out);have E11:=Lib.hid h11;have G11:=Lib.hid (z0j G9.out (z0j (grown_of B10.out) hg11));have T11:=Lib.hid ht11;have k11:=h11.k;clear hb10 h11 hg11 ht11)
            | fail)
          go_wp2_with fail;go_ret;exact ⟨_,rfl,T11.out,E11.out,G11.out⟩
theorem laidOut:laidOutB Tryz.prog=true:=by kernel_rfl
theorem x2i:Program.keyType Tryz.prog 138=true:=by kernel_rfl
theorem lawA:Keyed Tryz.prog 138:=Keyed.of_law (deep_law_laid laidOut (m:=Tryz.prog.types.size+1) (of_decide_eq_true (by kernel_rfl)) (of_decide_eq_true (by kernel_rfl)) x2i (by kernel_rfl))
def askV (s:ByteArray) (n:Nat):Value:=.agg #[.string s,.int .i64 n]
theorem y6i {s:ByteArray} {n:Nat} (hs:s.size≤maxLen) (hn:n≤1000000):∃ kl,keyOf Tryz.prog 138 (askV s n)=some kl:=by
  have hwf:(Lit.int .i64 (n:Int)).wf=true:=by
    have h1:IntKind.i64.min=-9223372036854775808:=by rfl
    have h2:IntKind.i64.max=9223372036854775807:=by rfl
    simp only [Lit.wf,h1,h2,Bool.and_eq_true,decide_eq_true_eq];omega
  obtain ⟨m,hm⟩:∃ m,Tryz.prog.types.size=m+1+1:=⟨Tryz.prog.types.size-2,by kernel_rfl⟩
  unfold keyOf askV;simp only [Tryz.underlying138];have c1:Tryz.prog.cellsOf 138=2:=by kernel_rfl
  have c2:Tryz.prog.cellsOf 9=1:=by kernel_rfl
  have c3:Tryz.prog.cellsOf 3=1:=by kernel_rfl
  rw [if_pos (by simp [x2i,Value.formed,Tryz.underlying138,c1]),hm];unfold Program.keyLits;simp only [Tryz.underlying138,Value.cells];rw [if_pos ⟨by rw [c1]; rfl,by kernel_rfl⟩];simp [c2,c3,Program.keyLits,Tryz.underlying9,Tryz.underlying3,hs,hwf]
theorem y0k (K M E:Nat):∀ n,ExC K M E n
  | 0=>fun _ _ _ _ _ _ _ _ h=>absurd h (Nat.not_lt_zero _)
  | n+1=>y7a K M E n (y0k K M E n)
def ExM (w:World) (e:Ending) (w':World):Prop:=∃ K M E,e=.returned (.func (.func 80) #[] #[.pointer (some ⟨K,0,none⟩),.pointer (some ⟨E,0,none⟩)])∧Env (fun b=>w'.heap.size≤b) w' K M E∧Below w.heap.size w w'∧w.heap.size≤M
theorem y6z (w:World):Calls Tryz.prog 48 #[] w (ExM w):=by
  have hmm:=@run_makeMap Tryz.prog;have hmf:∀ (fn:Fn) (first cap:Array Value) (w:World),(Instr.makeFunc fn first cap).run Tryz.prog w=.ok (.func fn first cap) w:=fun _ _ _ _=>rfl
  unfold ExM
  go_enter Tryz.func48,Tryz.ntmps48
  go_wp2_with fail;go_ret;have h0:=(MapKept.heap_alloc w (.map #[] 0)).1;refine ⟨_,_,_,rfl,⟨?_,?_,?_⟩,((Below.refl _ _).alloc (Nat.le_refl _) _ |>.alloc (by simp) _).alloc (by simp; omega) _,Nat.le_refl _⟩
  · exact kc (Rw.z0b _ _) (by simp [go_sem])
  · simp [go_sem]
  · refine Mg.Fine.below (M:=w.heap.size+1) (Mg.Fine.made w _ _ _) ?_ (Nat.lt_succ_self _);exact ((Below.refl _ _).alloc (by simp) _).alloc (by simp) _
theorem y4u (v:Value) (l:List Nd) (w:World) (hv:Nds w v l) (hl:l.length≤1000) (hm:Nms l):Calls Tryz.prog 20 #[v] w (AlP l w):=by
  have HF:=Lib.hid (y6y v l w hv hl hm);have HV:=Lib.hid hv;obtain ⟨_,a,c,rfl,-⟩:=id hv;unfold AlP;clear hv
  by_cases he:errR l=0
  · have ha:allR l=MtR l:=if_pos he;rw [he] at HF;rw [he,ha];clear ha
    go_enter Tryz.func20,Tryz.ntmps20
    go_wp2_with fail;refine HF.out.mono ?_;rintro e w1 ⟨rfl,hb1⟩;go_wp2_with fail;refine (y6z w1).mono ?_;rintro e w2 ⟨K,M,E,rfl,hE,hb2,hM⟩;have HX:=Lib.hid (y0k K M E _ (fun b=>w2.heap.size≤b) (.slice a l.length c) l w2 (fun _ h=>h) hE ((HV.out.below hb1).below hb2) he (Nat.lt_succ_self _));have B2:=Lib.hid (hb1.trans (hb2.mono hb1.size));have hs:=hb1.size;unfold ExP at HX;clear hb1 hb2 hE;go_wp2_with fail;refine HX.out.mono ?_;rintro e w3 ⟨y,rfl,hy,-,hg⟩;obtain ⟨ay,cy,rfl,_⟩:=hy.val;go_wp2_with fail;go_ret2;exact ⟨_,rfl,hy.trs,B2.out.grown hg B2.out.size fun k hk=>by cases hk; omega⟩
  · have ha:allR l=[]:=if_neg he;rw [ha];have hn:=he;generalize errR l=er at *
    go_enter Tryz.func20,Tryz.ntmps20
    go_wp2_with fail;refine HF.out.mono ?_;rintro e w1 ⟨rfl,hb1⟩;have B1:=Lib.hid hb1;clear hb1;go_wp2_with fail;go_ret2;exact ⟨_,rfl,trs_nil _,B1.out⟩
def Sk (A0:List ByteArray) (en:Int) (key val:Value):Prop:=∃ l j,key=askV (keyS l) j∧errR l=0∧j≤A0.length∧val=.bool (hasT (MtR l) ⟨A0.drop (A0.length-j),en⟩)
structure SEnv (A0:List ByteArray) (en:Int) (w:World) (X K M E:Nat):Prop where
  x:w.cell? ⟨X,0,none⟩=some (.int .i64 en)
  k:w.cell? ⟨K,0,none⟩=some (.map (some M))
  e:w.cell? ⟨E,0,none⟩=some (.func (.func 106) #[] #[.pointer (some ⟨X,0,none⟩),.pointer (some ⟨K,0,none⟩),.pointer (some ⟨E,0,none⟩)])
  m:Mg.Fine Tryz.prog 138 w M (Sk A0 en)
theorem SEnv.below {A0:List ByteArray} {en:Int} {w w':World} {X K M E:Nat} (h:SEnv A0 en w X K M E) (hb:Below w.heap.size w w'):SEnv A0 en w' X K M E:=
  ⟨kc hb h.x,kc hb h.k,kc hb h.e,h.m.below hb h.m.lt⟩
def SkP (A0:List ByteArray) (en:Int) (X K M E:Nat) (b:Bool) (w:World) (e:Ending) (w':World):Prop:=e=.returned (.bool b)∧SEnv A0 en w' X K M E∧w.grownBy w' (some M)
def SkC (A0:List ByteArray) (en:Int) (X K M E n:Nat):Prop:=∀ (v a:Value) (l:List Nd) (A:List ByteArray) (w:World),SEnv A0 en w X K M E→Nds w v l→Tr.Strs w a A→A <:+ A0→errR l=0→cnt l wK<n→
  Calls Tryz.prog 106 #[v,a,.pointer (some ⟨X,0,none⟩),.pointer (some ⟨K,0,none⟩),.pointer (some ⟨E,0,none⟩)] w (SkP A0 en X K M E (hasT (MtR l) ⟨A,en⟩) w)
theorem v3k {D A r:List ByteArray} (h:cutR D A=some r):r <:+ A:=by
  unfold cutR at h
  cases D with
  | nil=>cases h; exact List.suffix_refl _
  | cons s _=>
    cases A with
    | nil=>cases h
    | cons x t=>
      simp only at h
      split at h
      · cases h; exact List.suffix_cons _ _
      · cases h
theorem test_any (A0:List ByteArray) (en:Int) (X K M E n B5 B6:Nat) (ih:SkC A0 en X K M E n) (v a:Value) (l:List Nd) (A:List ByteArray) (m:Mv) (w:World) (hE:SEnv A0 en w X K M E) (c5:w.cell? ⟨B5,0,none⟩=some v) (c6:w.cell? ⟨B6,0,none⟩=some a) (hv:Nds w v l) (ha:Tr.Strs w a A) (hs:A <:+ A0) (he:errR l=0) (hm:m∈enR l) (hn:cnt l wK<n+1) :
    Calls Tryz.prog 108 #[mvV m,.pointer (some ⟨B5,0,none⟩),.pointer (some ⟨B6,0,none⟩),.pointer (some ⟨E,0,none⟩)] w (SkP A0 en X K M E (okM l ⟨A,en⟩ m) w):=by
  obtain ⟨h24,hmn,_,_⟩:=y0l he
  have HOK:Hid (okM l ⟨A,en⟩ m=match cutR (didR l m) A with | none=>false | some r=>hasT (MtR (nxL l m)) ⟨r,en⟩):=Lib.hid (by
    unfold okM;rw [y4i]
    cases cutR (didR l m) A <;> rfl)
  obtain ⟨q,hq⟩:∃ q,okM l ⟨A,en⟩ m=q:=⟨_,rfl⟩
  rw [hq] at HOK ⊢;clear hq;have HNX:=Lib.hid (y3l he hm);have hless:=(z3y hm).1;have hdt:=y4h l m;have HBY:=Lib.hid (fun o=>x3k v l m (w.alloc o) (hv.below (Rw.z0b w o)) (by omega) hmn);have HIH:=Lib.hid ih;have HE:=Lib.hid hE;have HA:=Lib.hid ha;obtain ⟨mp,mh⟩:=m;unfold ByP at HBY;obtain ⟨_,va,vc,rfl,_⟩:=id hv;obtain ⟨_,aa,ac,rfl,_⟩:=id ha;obtain ⟨L2,hL2⟩:∃ L2,nxL l ⟨mp,mh⟩=L2:=⟨_,rfl⟩
  obtain ⟨D2,hD2⟩:∃ D2,didR l ⟨mp,mh⟩=D2:=⟨_,rfl⟩
  rw [hL2] at HBY HNX HOK hless;rw [hD2] at HBY HOK hdt;have k5:=kc (Rw.z0b w (.cells #[.int .i64 mp,.int .i64 mh] 71)) c5;have k6:=kc (Rw.z0b w (.cells #[.int .i64 mp,.int .i64 mh] 71)) c6;unfold SkP;clear hE ha ih hL2 hD2 c5 hv
  go_enter Tryz.func108,Tryz.ntmps108
  go_wp2_with fail;refine (HBY.out _).mono ?_;rintro e w3 ⟨y,d,rfl,hy,hd,hb3⟩;obtain ⟨_,ya,yc,rfl,_⟩:=id hy;obtain ⟨_,da,dc,rfl,_⟩:=id (Ap.RdO.rd hd);have T3:=Lib.hid ((Rw.z0b w (.cells #[.int .i64 mp,.int .i64 mh] 71)).trans (hb3.mono (by simp)));have j6:=kc (Rw.z0b w3 (.cells #[.slice ya L2.length yc,.slice da D2.length dc] 75)) (kc hb3 k6);have HR:=Lib.hid (fun o=>x1q ya L2.length yc (.slice da D2.length dc) (.slice aa A.length ac) D2 A (w3.alloc o) (Ap.Rd.below (z8x hd) (Rw.z0b w3 o)) (Ap.Rd.below (Ap.Rd.below HA.out T3.out) (Rw.z0b w3 o)) hdt);have HY:=Lib.hid hy;unfold RtP at HR;clear hb3 hd hy k5
  cases hc:cutR D2 A with
  | none=>
    rw [hc] at HR HOK;obtain rfl:=HOK.out;go_wp2_with fail;refine (HR.out _).mono ?_;rintro e w4 ⟨r,rfl,hr,hb4⟩;have T4:=Lib.hid (T3.out.trans (((Rw.z0b w3 (.cells #[.slice ya L2.length yc,.slice da D2.length dc] 75)).trans (hb4.mono (by simp))).mono T3.out.size));clear hb4 hr;go_wp2_with fail;go_ret;exact ⟨rfl,HE.out.below T4.out,grown_of T4.out⟩
  | some r=>
    have hsr:=(v3k hc).trans hs;rw [hc] at HR HOK;obtain rfl:=HOK.out;go_wp2_with fail;refine (HR.out _).mono ?_;rintro e w4 ⟨rv,rfl,hr,hb4⟩;have T4:=Lib.hid (T3.out.trans (((Rw.z0b w3 (.cells #[.slice ya L2.length yc,.slice da D2.length dc] 75)).trans (hb4.mono (by simp))).mono T3.out.size));have E4:=Lib.hid (HE.out.below T4.out);have z0:=kc (p:=⟨w3.heap.size,0,none⟩) (u:=.slice ya L2.length yc) hb4 (by simp [go_sem]);have HC:=Lib.hid (HIH.out (.slice ya L2.length yc) rv L2 r w4 E4.out ((HY.out.below (Rw.z0b w3 (.cells #[.slice ya L2.length yc,.slice da D2.length dc] 75))).below hb4) hr hsr HNX.out (by omega));have g4:=E4.out.e;unfold SkP at HC;clear hb4 hr;go_wp2_with fail;refine HC.out.mono ?_;rintro e w5 ⟨rfl,hE5,hg5⟩;go_wp2_with fail;go_ret;exact ⟨rfl,hE5,z0j (grown_of T4.out) hg5⟩
def TsC (I:World→Prop) (p:Mv→Bool) (B5 B6 E:Nat) (L:List Mv):Prop:=∀ m∈L,∀ w,I w→Calls Tryz.prog 108 #[mvV m,.pointer (some ⟨B5,0,none⟩),.pointer (some ⟨B6,0,none⟩),.pointer (some ⟨E,0,none⟩)] w fun e w'=>e=.returned (.bool (p m))∧I w'
def IdP (I:World→Prop) (b:Bool) (e:Ending) (w':World):Prop:=∃ z:Int,e=.returned (.int .i64 z)∧decide (0≤z)=b∧-1≤z∧z≤1000000∧I w'
theorem idxM_any (I:World→Prop) (p:Mv→Bool) (B5 B6 E:Nat) (L:List Mv) (v:Value) (w:World) (hI:I w) (hv:∀ w',I w'→Mvs w' v L) (hT:TsC I p B5 B6 E L) (hl:L.length≤1000000) :
    Calls Tryz.prog 176 #[v,.func (.func 108) #[] #[.pointer (some ⟨B5,0,none⟩),.pointer (some ⟨B6,0,none⟩),.pointer (some ⟨E,0,none⟩)]] w (IdP I (L.any p)):=by
  obtain ⟨_,a,c,rfl,_⟩:=hv w hI;have HV:=Lib.hid hv;have HT:=Lib.hid hT;have H0:=Lib.hid hI;unfold TsC at HT;obtain ⟨q,hq⟩:∃ q,L.any p=q:=⟨_,rfl⟩
  have HQ:=Lib.hid hq;rw [hq];unfold IdP;clear hv hT hI hq
  go_enter Tryz.func176,Tryz.ntmps176
  go_wp2_with fail
  go_loopw [8] (fun i wr=>∃ k:Nat,k≤L.length∧i=.int .i64 k∧Hid (I wr)∧Hid ((L.take k).any p=false)) (fun i _=>L.length-(intOf i).toNat)
  case atStart=>exact ⟨0,Nat.zero_le _,rfl,H0,Lib.hid rfl⟩
  case round=>
    obtain ⟨k,hk,rfl,HI,HF⟩:=hrel
    by_cases hlt:k<L.length
    · rcases (HV.out wr HI.out).form with ⟨hz,_⟩ | ⟨eb,eo,ec,hev,_,hat⟩
      · rw [hz] at hlt; simp at hlt
      injection hev with x1 x2 x3;subst x1;subst x3;obtain ⟨m0,m1⟩:=hat k hlt;have hkl:(k:Int)<L.length:=by omega
      have HC:=Lib.hid (HT.out _ (List.getElem_mem hlt) wr HI.out);have HTK:=Lib.hid (show (L.take (k+1)).any p=((L.take k).any p||p L[k]) by rw [List.take_succ_eq_append_getElem hlt,List.any_append]; simp);have HYE:=Lib.hid (fun h:p L[k]=true=>show L.any p=true from List.any_eq_true.2 ⟨_,List.getElem_mem hlt,h⟩);rw [HF.out,Bool.false_or] at HTK;generalize L[k]=m at *;obtain ⟨mp,mh⟩:=m;clear hat
      cases hp:p ⟨mp,mh⟩ with
      | true=>
        obtain rfl:true=q:=by rw [← HQ.out]; exact (HYE.out hp).symm
        rw [hp] at HC;go_wp2_with fail;refine HC.out.mono ?_;rintro e w3 ⟨rfl,hI3⟩;go_wp2_with fail;go_ret;exact ⟨_,rfl,decide_eq_true (by omega),by omega,by omega,hI3⟩
      | false=>
        rw [hp] at HC HTK;go_wp2_with fail;refine HC.out.mono ?_;rintro e w3 ⟨rfl,hI3⟩;have I3:=Lib.hid hI3;clear hI3;go_wp2_with fail
        go_roundw
        case rel=>exact ⟨k+1,by omega,by go_num,I3,HTK⟩
        case measure=>simp [intOf]; omega
    · obtain rfl:false=q:=by rw [← HQ.out,← HF.out,List.take_of_length_le (by omega)]
      go_wp2_with fail;go_ret;exact ⟨_,rfl,rfl,by omega,by omega,HI.out⟩
theorem hasM_any (I:World→Prop) (p:Mv→Bool) (B5 B6 E:Nat) (L:List Mv) (v:Value) (w:World) (hI:I w) (hv:∀ w',I w'→Mvs w' v L) (hT:TsC I p B5 B6 E L) (hl:L.length≤1000000) :
    Calls Tryz.prog 107 #[v,.func (.func 108) #[] #[.pointer (some ⟨B5,0,none⟩),.pointer (some ⟨B6,0,none⟩),.pointer (some ⟨E,0,none⟩)]] w fun e w'=>e=.returned (.bool (L.any p))∧I w':=by
  have HI:=Lib.hid (idxM_any I p B5 B6 E L v w hI hv hT hl);obtain ⟨q,hq⟩:∃ q,L.any p=q:=⟨_,rfl⟩
  rw [hq] at HI ⊢;unfold IdP at HI;obtain ⟨_,a,c,rfl,_⟩:=hv w hI;clear hv hT hI hq
  go_enter Tryz.func107,Tryz.ntmps107
  go_wp2_with fail;refine HI.out.mono ?_;rintro e w3 ⟨z,rfl,hz,_,_,hI3⟩;go_wp2_with fail;go_ret;refine ⟨Rw.ret_bool ?_,hI3⟩;rw [← hz]
end Ru
end Go.Proofs.YtpingbiibbmcaaaGreatDoor
