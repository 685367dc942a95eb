/- Laws that the last text leans on. -/
import Derived.Test.YtaapnkoooofalaaGreatQ08

set_option maxRecDepth 20000
set_option maxHeartbeats 4000000
namespace Go.Proofs.YtaapnkoooofalaaGreat
namespace Mn
open Go Go.RowKit Tr
def ShapeP (x:Qd):Prop:=∃ a n c z a' n' c' z',x.a=.slice a n c∧x.b=.int .i64 z∧x.c=.slice a' n' c'∧x.d=.int .i64 z'
theorem x2q {P:Program} (w:World) (t e ty:TypeId) (z:Value) (ht:P.underlying t=some (.slice e)) (hv:∀ w,(zeroValue e).run P w=.ok z w) (b o n c:Nat) (hn:0<n)
    (hl:(Builtin.zeroCells z.cells n).toList.length=n*4) (h1:∀ v∈(Builtin.zeroCells z.cells n).toList,v.oneCell'=true)
    (hc:∀ j,j<n*4→(w.cell? ⟨b,o+j,none⟩).isSome=true) (hf:∀ j,j<n*4→w.frozen? ⟨b,o+j,none⟩=false) :
    (Builtin.clear_ #[t] ty #[.slice (some ⟨b,o,none⟩) n c]).run P w=.ok (.tuple #[]) (w.setCells b o (Builtin.zeroCells z.cells n).toList):=by
  have hst:=run_storeCells_cells (P:=P) b o (Builtin.zeroCells z.cells n).toList 0 w (by rw [hl]; simpa using hc) (by rw [hl]; simpa using hf) h1;simp only [Nat.add_zero] at hst;obtain ⟨m,rfl⟩:∃ m,n=m+1:=⟨n-1,by omega⟩
  simp [Builtin.clear_,run_underlying ht,hv,hst]
theorem zsP (n:Nat):(Builtin.zeroCells #[.slice none 0 0,.int .i64 0,.slice none 0 0,.int .i64 0] n).toList.length=n*4∧∀ v∈(Builtin.zeroCells #[.slice none 0 0,.int .i64 0,.slice none 0 0,.int .i64 0] n).toList,v.oneCell'=true:=by
  refine ⟨by simp [Builtin.zeroCells],fun v hv=>?_⟩;obtain ⟨i,_,rfl⟩:=x4y hv;have h4:i % 4=0∨i % 4=1∨i % 4=2∨i % 4=3:=by omega
  rcases h4 with h | h | h | h
  all_goals (
    show ((#[.slice none 0 0,.int .i64 0,.slice none 0 0,.int .i64 0]:Array Value)[i % 4]!).oneCell'=true
    rw [h]; rfl)
theorem compactP (g cap:Nat) (q:Qd→Qd→Bool) (xs:List (Qd)) (w:World) (h:Own4 w g 97 cap xs) (hlen:xs.length≤1000000000000) (hsh:∀ x∈xs,ShapeP x)
    (hq:∀ W,w.grownBy W (some g)→∀ x∈xs,∀ y∈xs,Calls Tryz.prog 160 #[.agg #[x.a,x.b,x.c,x.d],.agg #[y.a,y.b,y.c,y.d]] W fun e w'=>e=.returned (.bool (q x y))∧Below W.heap.size W w') :
    Calls Tryz.prog 159 #[.slice (some ⟨g,0,none⟩) xs.length cap,.func (.func 160) #[] #[]] w fun e w'=>e=.returned (.slice (some ⟨g,0,none⟩) (cpt q xs).length cap)∧Own4 w' g 97 cap (cpt q xs)∧w.grownBy w' (some g):=by
  have hcap:=h.len;have H:=Lib.hid h;have HS:=Lib.hid hsh;have HQ:=Lib.hid hq;clear h hsh hq
  by_cases h2:xs.length<2
  · have HX:Hid (cpt q xs=xs):=by
      match xs,h2 with
      | [],_=>exact rfl
      | [x],_=>exact rfl
    go_enter Tryz.func159,Tryz.ntmps159
    go_wp2_with fail;go_ret;rw [HX.out];exact ⟨rfl,H.out,z5u _ _⟩
  · go_enter Tryz.func159,Tryz.ntmps159
    go_wp2_with fail
    go_loopw [5] (fun kv wr=>∃ k:Nat,1≤k∧k≤xs.length∧kv=.int .i64 (k:Int)∧Own4 wr g 97 cap xs∧w.grownBy wr (some g)∧cpt q (xs.take k)=xs.take k) (fun kv _=>xs.length-(intOf kv).toNat)
    case atStart=>
      refine ⟨1,Nat.le_refl _,by omega,rfl,H.out,z5u _ _,?_⟩
      match xs,h2 with
      | x::xs,_=>simp [cpt,cptF]
    case round=>
      obtain ⟨k,hk1,hk,rfl,ho,hg,hcp⟩:=hrel;have HO:=Lib.hid ho;have HG:=Lib.hid hg;have HCP:=Lib.hid hcp;clear ho hg hcp
      by_cases hlt:k<xs.length
      · obtain ⟨c0,c1,c2,c3⟩:=HO.out.cell k hlt;obtain ⟨d0,d1,d2,d3⟩:=HO.out.cell (k-1) (by omega);have M1:=Lib.hid (List.getElem_mem hlt);have M0:=Lib.hid (List.getElem_mem (show k-1<xs.length by omega));have SN:=Lib.hid (y0g q xs k hk1 hlt);have TK:=Lib.hid (List.take_succ_eq_append_getElem hlt);obtain ⟨x,hx⟩:∃ x,xs[k]=x:=⟨_,rfl⟩
        obtain ⟨y,hy⟩:∃ y,xs[k-1]'(by omega)=y:=⟨_,rfl⟩
        rw [hx] at c0 c1 c2 c3 M1 SN TK;rw [hy] at d0 d1 d2 d3 M0 SN;clear hx hy;obtain ⟨j,hjk⟩:∃ j,k-1=j:=⟨_,rfl⟩
        have HW1:=Lib.hid (z3k k j hjk hk1 (by omega));have hjlt:j<xs.length:=by omega
        rw [hjk] at d0 d1 d2 d3;have HJK:=Lib.hid hjk;clear hjk;have QC:=Lib.hid (fun W hW=>HQ.out W hW x M1.out y M0.out)
        cases hxy:q x y with
        | false=>
          rw [hxy] at QC SN;obtain ⟨x1,x2,x3,x4⟩:=x;obtain ⟨y1,y2,y3,y4⟩:=y;go_wp2_with fail
          go_still_tail 10,(by kernel_rfl)
          simp only [HW1.out]
          repeat still_step
          refine wpStill_nil ?_;change wpList _ _ _ _ _ wr.drew;go_wp2_with fail;refine (QC.out _ (z0c HG.out (z0u _ _))).mono ?_;rintro e w1 ⟨rfl,hb1⟩;have G1:=Lib.hid (z0c (z0c HG.out (z0u _ _)) (z0r hb1));have O1:=Lib.hid (HO.out.below ((Below.refl _ _).drew.trans hb1));clear hb1;go_wp2_with fail
          go_roundw
          case rel=>exact ⟨k+1,by omega,by omega,by go_num,O1.out,G1.out,by rw [SN.out,HCP.out,TK.out]; rfl⟩
          case measure=>simp [intOf]; omega
        | true=>
          rw [hxy] at QC SN;obtain ⟨x1,x2,x3,x4⟩:=x;obtain ⟨y1,y2,y3,y4⟩:=y;go_wp2_with fail
          go_still_tail 10,(by kernel_rfl)
          simp only [HW1.out]
          repeat still_step
          refine wpStill_nil ?_;change wpList _ _ _ _ _ wr.drew;go_wp2_with fail;refine (QC.out _ (z0c HG.out (z0u _ _))).mono ?_;rintro e w1 ⟨rfl,hb1⟩;have G1:=Lib.hid (z0c (z0c HG.out (z0u _ _)) (z0r hb1));have O1:=Lib.hid (HO.out.below ((Below.refl _ _).drew.trans hb1));clear hb1 c0 c1 c2 c3 d0 d1 d2 d3;go_wp2_with fail
          go_loopw [5,7] (fun kv k2v wr=>∃ kk k2:Nat,kv=.int .i64 (kk:Int)∧k2v=.int .i64 (k2:Int)∧1≤k2∧k+k2≤xs.length∧kk=(cpt q (xs.take (k+k2))).length∧kk<k+k2∧Own4 wr g 97 cap (cpt q (xs.take (k+k2))++xs.drop kk)∧w.grownBy wr (some g)) (fun _ k2v _=>xs.length-(k+(intOf k2v).toNat))
          case atStart=>
            have e0:cpt q (xs.take (k+1))=xs.take k:=by rw [SN.out,HCP.out]; simp
            refine ⟨k,1,rfl,rfl,Nat.le_refl _,by omega,by rw [e0,List.length_take]; omega,by omega,?_,G1.out⟩;rw [e0,List.take_append_drop];exact O1.out
          case round=>
            obtain ⟨kk,k2,rfl,rfl,hk2,hle,hkk,hkl,ho2,hg2⟩:=hrel;have HKK:=Lib.hid hkk;have HO2:=Lib.hid ho2;have HG2:=Lib.hid hg2;clear hkk ho2 hg2
            by_cases hlt2:k+k2<xs.length
            · have ey:∀ m (hm:m<xs.length) (hk:kk≤m),∃ hm':m<(cpt q (xs.take (k+k2))++xs.drop kk).length,(cpt q (xs.take (k+k2))++xs.drop kk)[m]=xs[m]:=fun m hm hk=>by
                refine ⟨by simp [← HKK.out]; omega,?_⟩;rw [List.getElem_append_right (by rw [← HKK.out]; exact hk)];simp [← HKK.out,Nat.add_sub_cancel' hk]
              obtain ⟨hA,eA⟩:=ey (k+k2) hlt2 (by omega);obtain ⟨hB,eB⟩:=ey (k+k2-1) (by omega) (by omega);obtain ⟨c0,c1,c2,c3⟩:=HO2.out.cell _ hA;obtain ⟨d0,d1,d2,d3⟩:=HO2.out.cell _ hB;rw [eA] at c0 c1 c2 c3;rw [eB] at d0 d1 d2 d3;have M1':=Lib.hid (List.getElem_mem hlt2);have M0':=Lib.hid (List.getElem_mem (show k+k2-1<xs.length by omega));have SN':=Lib.hid (y0g q xs (k+k2) (by omega) hlt2);have DK:=Lib.hid (List.drop_eq_getElem_cons (show kk<xs.length by omega));obtain ⟨u,hu⟩:∃ u,xs[k+k2]=u:=⟨_,rfl⟩
              obtain ⟨v,hv⟩:∃ v,xs[k+k2-1]'(by omega)=v:=⟨_,rfl⟩
              rw [hu] at c0 c1 c2 c3 M1' SN';rw [hv] at d0 d1 d2 d3 M0' SN';clear hu hv eA eB ey;have f0:=HO2.out.soft (kk*4);have f1:=HO2.out.soft (kk*4+1);have f2:=HO2.out.soft (kk*4+2);have f3:=HO2.out.soft (kk*4+3);have t0:=HO2.out.there (kk*4) (by omega);have t1:=HO2.out.there (kk*4+1) (by omega);have t2:=HO2.out.there (kk*4+2) (by omega);have t3:=HO2.out.there (kk*4+3) (by omega);obtain ⟨o0,t0⟩:=Option.isSome_iff_exists.1 t0;obtain ⟨o1,t1⟩:=Option.isSome_iff_exists.1 t1;obtain ⟨o2,t2⟩:=Option.isSome_iff_exists.1 t2;obtain ⟨o3,t3⟩:=Option.isSome_iff_exists.1 t3;rw [show (k+k2)*4=k*4+k2*4 by omega] at c0 c1 c2 c3;rw [show (k+k2-1)*4=k*4+(k2-1)*4 by omega] at d0 d1 d2 d3;obtain ⟨j2,hjk2⟩:∃ j2,k2-1=j2:=⟨_,rfl⟩
              have HW2:=Lib.hid (z3k k2 j2 hjk2 hk2 (by omega));have hjlt2:j2<xs.length-k:=by omega
              have hklt2:k2<xs.length-k:=by omega
              rw [hjk2] at d0 d1 d2 d3;have HJK2:=Lib.hid hjk2;clear hjk2;have QC2:=Lib.hid (fun W hW=>HQ.out W hW u M1'.out v M0'.out)
              cases huv:q u v with
              | true=>
                rw [huv] at QC2 SN';obtain ⟨u1,u2,u3,u4⟩:=u;obtain ⟨v1,v2,v3,v4⟩:=v;go_wp2_with fail
                go_still_tail 10,(by kernel_rfl)
                simp only [HW2.out]
                repeat still_step
                refine wpStill_nil ?_;change wpList _ _ _ _ _ wr.drew;go_wp2_with fail;refine (QC2.out _ (z0c HG2.out (z0u _ _))).mono ?_;rintro e w2 ⟨rfl,hb2⟩;have G2:=Lib.hid (z0c (z0c HG2.out (z0u _ _)) (z0r hb2));have O2:=Lib.hid (HO2.out.below ((Below.refl _ _).drew.trans hb2));clear hb2;go_wp2_with fail
                go_roundw
                case rel=>
                  have e1:cpt q (xs.take (k+(k2+1)))=cpt q (xs.take (k+k2)):=by
                    rw [show k+(k2+1)=k+k2+1 by omega];have:=SN'.out
                    simpa using this
                  refine ⟨kk,k2+1,rfl,by go_num,by omega,by omega,by rw [e1]; exact HKK.out,by omega,?_,G2.out⟩;rw [e1];exact O2.out
                case measure=>simp [intOf]; omega
              | false=>
                rw [huv] at QC2 SN';have hsu:=HS.out u M1'.out;obtain ⟨u1,u2,u3,u4⟩:=u;obtain ⟨ua,un,uc,uz,ua',un',uc',uz',rfl,rfl,rfl,rfl⟩:=hsu;obtain ⟨v1,v2,v3,v4⟩:=v;go_wp2_with fail
                go_still_tail 10,(by kernel_rfl)
                simp only [HW2.out]
                repeat still_step
                refine wpStill_nil ?_;change wpList _ _ _ _ _ wr.drew;go_wp2_with fail;refine (QC2.out _ (z0c HG2.out (z0u _ _))).mono ?_;rintro e w2 ⟨rfl,hb2⟩;have hD:Below wr.heap.size wr w2:=(Below.refl _ _).drew.trans hb2;have G2:=Lib.hid (z0c (z0c HG2.out (z0u _ _)) (z0r hb2));have O2:=Lib.hid (HO2.out.below hD);have hgl:=HO2.out.lt;rw [← hD.cell (p:=⟨g,k*4+k2*4,none⟩) hgl] at c0;rw [← hD.cell (p:=⟨g,k*4+k2*4+1,none⟩) hgl] at c1;rw [← hD.cell (p:=⟨g,k*4+k2*4+2,none⟩) hgl] at c2;rw [← hD.cell (p:=⟨g,k*4+k2*4+3,none⟩) hgl] at c3;rw [← hD.cell (p:=⟨g,kk*4,none⟩) hgl] at t0;rw [← hD.cell (p:=⟨g,kk*4+1,none⟩) hgl] at t1;rw [← hD.cell (p:=⟨g,kk*4+2,none⟩) hgl] at t2;rw [← hD.cell (p:=⟨g,kk*4+3,none⟩) hgl] at t3;rw [← hD.frozen (p:=⟨g,kk*4,none⟩) hgl] at f0;rw [← hD.frozen (p:=⟨g,kk*4+1,none⟩) hgl] at f1;rw [← hD.frozen (p:=⟨g,kk*4+2,none⟩) hgl] at f2;rw [← hD.frozen (p:=⟨g,kk*4+3,none⟩) hgl] at f3;clear hb2 hD d0 d1 d2 d3;go_wp2_with fail
                go_roundw
                case rel=>
                  have e1:cpt q (xs.take (k+(k2+1)))=cpt q (xs.take (k+k2))++[⟨.slice ua un uc,.int .i64 uz,.slice ua' un' uc',.int .i64 uz'⟩]:=by
                    rw [show k+(k2+1)=k+k2+1 by omega];have:=SN'.out
                    simpa using this
                  refine ⟨kk+1,k2+1,by go_num,by go_num,by omega,by omega,by rw [e1,List.length_append,← HKK.out]; rfl,by omega,?_,z0c G2.out (y3t _ _ _ _ _ _ _)⟩;have:=O2.out.store kk (by simp [← HKK.out]; omega) (.slice ua un uc) (.int .i64 uz) (.slice ua' un' uc') (.int .i64 uz');rw [DK.out] at this;rw [e1];have e3:=set_mid (cpt q (xs.take (k+k2))) (xs.drop (kk+1)) (xs[kk]'(by omega)) ⟨.slice ua un uc,.int .i64 uz,.slice ua' un' uc',.int .i64 uz'⟩;rw [← HKK.out] at e3;rw [e3] at this
                  simpa using this
                case measure=>simp [intOf]; omega
            · have hend:k+k2=xs.length:=by omega
              have hcl:∀ ty,(Builtin.clear_ #[98] ty #[.slice (some ⟨g,kk*4,none⟩) (xs.length-kk) (cap-kk)]).run Tryz.prog wr=.ok (.tuple #[]) (wr.setCells g (kk*4) (Builtin.zeroCells #[.slice none 0 0,.int .i64 0,.slice none 0 0,.int .i64 0] (xs.length-kk)).toList):=
                fun ty=>x2q wr _ _ ty (.agg #[.slice none 0 0,.int .i64 0,.slice none 0 0,.int .i64 0]) Tryz.underlying98 Tryz.zeroValue97 g (kk*4) _ _ (by omega) (zsP _).1 (zsP _).2 (fun j hj=>HO2.out.there _ (by omega)) (fun j hj=>HO2.out.soft _)
              have ET:Hid (cpt q (xs.take (k+k2))=cpt q xs):=by rw [hend,List.take_length]; exact rfl
              have KC:=HKK.out;rw [ET.out] at KC;have O3:=HO2.out.take kk;rw [ET.out,List.take_left' KC.symm] at O3;have HO3:=Lib.hid O3;have HKC:=Lib.hid KC;clear O3 KC;go_wp2_with fail;go_ret;refine ⟨by rw [← HKC.out]; go_num,HO3.out.setOut _ _ _ (by rw [← HKC.out]; exact Nat.le_refl _),z0c HG2.out (z3d _ _ _ _)⟩
      · have hend:k=xs.length:=by omega
        have HX:Hid (cpt q xs=xs):=by
          have:=HCP.out;rw [hend,List.take_length] at this;exact this
        go_wp2_with fail;go_ret;rw [HX.out];exact ⟨rfl,HO.out,HG.out⟩
end Mn
namespace Pl
open Go Rw So
theorem inner:∀ (m:Nat) (l:List Nd),l.length≤m→∀ c d,T l=some (c,d)→∀ i,i<c→∃ c' d',T (l.drop i)=some (c',d')∧i+c'≤c∧(0<i→d'+1≤d)
  | 0,l,h,c,d,e,_,_=>by
    have:l=[]:=List.eq_nil_of_length_eq_zero (by omega);subst this;rw [z7k] at e
    cases e
  | m+1,[],h,c,d,e,_,_=>by rw [z7k] at e; cases e
  | m+1,n::r,h,c,d,e,0,_=>⟨c,d,e,by omega,fun h=>absurd h (Nat.lt_irrefl 0)⟩
  | m+1,n::r,h,c,d,e,i+1,hi=>by
    rw [z2l] at e
    split at e
    · cases e
    · cases hs:S (Rw.ar n.k).toNat r with
      | none=>rw [hs] at e; cases e
      | some x=>
        obtain ⟨c1,d1⟩:=x;rw [hs] at e;simp only [Option.some.injEq,Prod.mk.injEq] at e;obtain ⟨rfl,rfl⟩:=e;have hr:r.length≤m:=by simpa using h
        have key:∀ j c d,S j r=some (c,d)→∀ i,i<c→∃ c' d',T (r.drop i)=some (c',d')∧i+c'≤c∧d'≤d:=by
          intro j
          induction j with
          | zero=>intro c d e i hi; rw [z3e] at e; cases e; exact absurd hi (Nat.not_lt_zero _)
          | succ j ih=>
            intro c d e i hi;rw [z2q] at e
            cases h1:S j r with
            | none=>rw [h1] at e; cases e
            | some x=>
              obtain ⟨c1,d1⟩:=x;rw [h1] at e;simp only at e
              cases h2:T (r.drop c1) with
              | none=>rw [h2] at e; cases e
              | some y=>
                obtain ⟨c2,d2⟩:=y;rw [h2] at e;simp only [Option.some.injEq,Prod.mk.injEq] at e;obtain ⟨rfl,rfl⟩:=e
                by_cases hic:i<c1
                · obtain ⟨c',d',g1,g2,g3⟩:=ih c1 d1 h1 i hic;exact ⟨c',d',g1,by omega,by omega⟩
                · obtain ⟨c',d',g1,g2,g3⟩:=inner m (r.drop c1) (by rw [List.length_drop]; omega) c2 d2 h2 (i-c1) (by omega);rw [List.drop_drop,show c1+(i-c1)=i by omega] at g1;refine ⟨c',d',g1,by omega,?_⟩
                  by_cases h0:0<i-c1
                  · have:=g3 h0;omega
                  · rw [show c1=i by omega,g1] at h2;simp only [Option.some.injEq,Prod.mk.injEq] at h2;omega
        obtain ⟨c',d',h1,h2,h3⟩:=key _ c1 d1 hs i (by omega);exact ⟨c',d',by rw [List.drop_succ_cons]; exact h1,by omega,fun _=>by omega⟩
def zz (l:List Nd) (j:Nat):Nat:=Rw.size (l.drop j)
def dd (l:List Nd) (j:Nat):Nat:=Rw.depth (l.drop j)
theorem y7a {l:List Nd} {j c d:Nat} (h:T (l.drop j)=some (c,d)):zz l j=c∧dd l j=d:=by
  unfold zz dd Rw.size Rw.depth;rw [h];exact ⟨rfl,rfl⟩
theorem y8n {l:List Nd} (h:Tre l) {j:Nat} (hj:j<l.length):T (l.drop j)=some (zz l j,dd l j)∧1≤zz l j∧j+zz l j≤l.length:=by
  obtain ⟨d,hd⟩:=h;obtain ⟨c',d',h1,h2,_⟩:=inner _ l (Nat.le_refl _) _ d hd j hj;obtain ⟨e1,e2⟩:=y7a h1;rw [e1,e2];exact ⟨h1,(T_bd h1).1,h2⟩
theorem nest {l:List Nd} (h:Tre l) {i j:Nat} (hi:i<j) (hj:j<i+zz l i) (hjl:j<l.length):j+zz l j≤i+zz l i∧dd l j+1≤dd l i:=by
  obtain ⟨h1,h2,h3⟩:=y8n h (j:=i) (by omega);obtain ⟨c',d',g1,g2,g3⟩:=inner _ (l.drop i) (Nat.le_refl _) _ _ h1 (j-i) (by omega);rw [List.drop_drop,show i+(j-i)=j by omega] at g1;obtain ⟨e1,e2⟩:=y7a g1;rw [e1,e2];exact ⟨by omega,g3 (by omega)⟩
def ov (l:List Nd) (k:Nat):List Nat:=(List.range k).filter fun j=>decide (k<j+zz l j)
theorem mem_ov {l:List Nd} {k j:Nat}:j∈ov l k↔j<k∧k<j+zz l j:=by
  unfold ov;rw [List.mem_filter,List.mem_range,decide_eq_true_eq]
theorem ov_zero (l:List Nd):ov l 0=[]:=rfl
def xl (l:List Nd) (k:Nat):Nat:=(l.take k).countP fun x=>decide (Rw.ar x.k=0)
theorem xl_succ {l:List Nd} {k:Nat} (h:k<l.length):xl l (k+1)=xl l k+if Rw.ar l[k].k=0 then 1 else 0:=by
  unfold xl;rw [List.take_succ_eq_append_getElem h,List.countP_append]
  congr 1
  by_cases h0:Rw.ar l[k].k=0 <;> simp [h0]
theorem xl_mono {l:List Nd} {j k:Nat} (h:j≤k):xl l j≤xl l k:=by
  unfold xl;exact ((List.take_sublist_take_left h).countP_le)
end Pl
namespace Rw
open Go Go.RowKit
structure Al (w0:World) (B:Nat) (w:World):Prop where
  bel:Below w0.heap.size w0 w
  lt:B<w.heap.size
  at':At w B 0 aL
structure Al2 (w0:World) (B b o c:Nat) (b0:Option Addr) (c0:Nat) (b1:Option Addr) (c1:Nat) (w:World):Prop where
  al:Al w0 B w
  rws:Rws w (.slice (some ⟨b,o,none⟩) 2 c) [[n1],[n2,n3,n4]]
  k0:w.cell? ⟨b,o,none⟩=some (.slice b0 1 c0)
  k1:w.cell? ⟨b,o+1,none⟩=some (.slice b1 3 c1)
end Rw
namespace Rx
open Go Go.RowKit Rw
theorem x9e (w:World) (o:Obj):(w.alloc o).heap[w.heap.size]?=some o:=by
  show (w.heap.push o)[w.heap.size]?=some o
  simp
theorem x7d (w:World):(w.alloc (.cells #[] 36)).ownsRow w.heap.size 36 3 (.slice (some ⟨w.heap.size,0,none⟩) 0 0) 0 []:=
  ⟨rfl,.inr ⟨w.heap.size,0,#[],rfl,Nat.le_refl _,x9e w _,Nat.le_refl _,Nat.zero_le _,rfl,rfl⟩⟩
theorem y6t (x:Value) (l:List Nd) (w:World) (hx:Nds w x l) (hlen:l.length≤1000000) :
    Calls Tryz.prog 47 #[x] w fun e w'=>∃ v,e=.returned v∧w'.ownsRow w.heap.size 36 3 v l.length (cls l)∧Below w.heap.size w w':=by
  have q:∀ (w:World) (a:Option Addr) (n c n' c':Nat),(binOp .eql 22 (.slice a n c) (.slice none n' c')).run Tryz.prog w=.ok (.bool a.isNone) w:=fun w a n c n' c'=>Lib.run_eql_slice_nil w _ _ a n c n' c' Tryz.underlying22
  have hb0:Below w.heap.size w (w.alloc (.cells #[] 36)):=z0f w _;obtain ⟨v1,w1,hrun,hown,_,hb,_⟩:=z5m (l:=[]) (x7d w) hb0.size (hx.below hb0) (by simp; omega);rw [List.nil_append] at hown;obtain ⟨hl,a,c,rfl,_,hn,_⟩:=hx
  cases a with
  | none=>
    obtain ⟨h0,rfl⟩:=hn rfl;obtain rfl:l=[]:=List.eq_nil_of_length_eq_zero h0;clear hrun hown hb hb0 hl hn h0
    go_enter Tryz.func47,Tryz.ntmps47
    go_wp2_with fail;go_ret;exact ⟨_,rfl,⟨rfl,.inl ⟨rfl,rfl⟩⟩,Below.refl _ _⟩
  | some ad=>
    have R:=Lib.hid hrun;have O:=Lib.hid hown;have B:=Lib.hid (hb0.trans hb);clear hrun hown hb hb0 hn hl
    go_enter Tryz.func47,Tryz.ntmps47
    go_wp2_with (at_builtin; refine Ap.wpList_append_run (by rfl) _ _ _ _ rfl _ _ rfl rfl v1 w1 R.out ?_);go_ret;exact ⟨_,rfl,O.out,B.out⟩
def OwnK (base:Nat) (out:Option Nat) (w:World):List Value→List (List Nd)→Prop
  | [],[]=>True
  | a::cs,r::rs=>(w.ownsRow base 36 3 a r.length (cls r)∧∀ g,a.ownBlock=some g→some g≠out)∧OwnK base out w cs rs
  | _,_=>False
theorem OwnK.below {base:Nat} {out:Option Nat} {w w':World} (hb:Below w.heap.size w w'):∀ {cs:List Value} {ls:List (List Nd)},OwnK base out w cs ls→OwnK base out w' cs ls
  | [],[],_=>trivial
  | _::_,_::_,h=>⟨⟨Ap.own_below h.1.1 hb,h.1.2⟩,OwnK.below hb h.2⟩
  | [],_::_,h=>h.elim
  | _::_,[],h=>h.elim
theorem OwnK.snoc {base:Nat} {out:Option Nat} {w:World} {a:Value} {r:List Nd} (ha:w.ownsRow base 36 3 a r.length (cls r)) (hn:∀ g,a.ownBlock=some g→some g≠out):∀ {cs:List Value} {ls:List (List Nd)},OwnK base out w cs ls→OwnK base out w (cs++[a]) (ls++[r])
  | [],[],_=>⟨⟨ha,hn⟩,trivial⟩
  | _::_,_::_,h=>⟨h.1,OwnK.snoc ha hn h.2⟩
  | [],_::_,h=>h.elim
  | _::_,[],h=>h.elim
theorem x7f {w w':World} {base size n:Nat} {e:TypeId} {v:Value} {xs:List Value} {r:Option Nat} (h:w.ownsRow base e size v n xs) (hg:w.grownBy w' r) (hr:∀ g,v.ownBlock=some g→some g≠r):w'.ownsRow base e size v n xs:=by
  obtain ⟨hl,h | ⟨g,cap,cur,rfl,hb,hh,h1,h2,h3,h4⟩⟩:=h
  · exact ⟨hl,.inl h⟩
  · refine ⟨hl,.inr ⟨g,cap,cur,rfl,hb,?_,h1,h2,h3,h4⟩⟩;rw [hg.block g (Nat.lt_of_not_le fun hle=>by rw [Array.getElem?_eq_none hle] at hh; cases hh) (hr g rfl)];exact hh
theorem OwnK.grow {base:Nat} {w w':World} {v v':Value} (hg:w.grownBy w' v.ownBlock) (hf:Ap.Fresh w v v'):∀ {cs:List Value} {ls:List (List Nd)},OwnK base v.ownBlock w cs ls→OwnK base v'.ownBlock w' cs ls
  | [],[],_=>trivial
  | a::_,r::_,h=>by
    refine ⟨⟨x7f h.1.1 hg h.1.2,fun g hgo=>?_⟩,OwnK.grow hg hf h.2⟩;have hlt:=Ap.z6g h.1.1 g hgo
    rcases hf with e | ⟨k,e,hk⟩
    · rw [e]; exact h.1.2 g hgo
    · rw [e];intro e2
      cases e2
      omega
  | [],_::_,h=>h.elim
  | _::_,[],h=>h.elim
theorem x6z {base:Nat} {out:Option Nat} {w:World} {a:Value} {r:List Nd} (h:w.ownsRow base 36 3 a r.length (cls r)) (hn:∀ g,a.ownBlock=some g→some g≠out):Own1 base out w a r:=by
  obtain ⟨hl,⟨rfl,h0⟩ | ⟨g,cap,cur,rfl,hb,hh,hnc,hcm,hcs,ht⟩⟩:=h
  · refine ⟨⟨hl,none,0,by rw [h0],by omega,fun _=>⟨h0,rfl⟩,fun h=>by omega⟩,?_⟩;intro b off cap e;rw [h0] at e
    cases e
  · refine ⟨⟨hl,some ⟨g,0,none⟩,cap,rfl,hnc,fun h=>(by cases h),fun _=>⟨g,0,rfl,⟨hb,hn g rfl⟩,?_,fun j u hu=>?_⟩⟩,?_⟩
    · exact Nat.lt_of_not_le fun hle=>by
        rw [Array.getElem?_eq_none hle] at hh
        cases hh
    · have hj:j<r.length*3:=by
        rw [← hl];exact (List.getElem?_eq_some_iff.1 hu).1
      rw [← ht,List.getElem?_take_of_lt hj] at hu;simp only [World.cell?,hh,Nat.zero_add]
      simpa using hu
    · intro b off cap' e j _
      cases e
      simp [World.frozen?,hh]
theorem OwnK.ownC {base:Nat} {out:Option Nat} {w:World}:∀ {cs:List Value} {ls:List (List Nd)},OwnK base out w cs ls→OwnC base out w cs ls
  | [],[],_=>trivial
  | _::_,_::_,h=>⟨x6z h.1.1 h.1.2,OwnK.ownC h.2⟩
  | [],_::_,h=>h.elim
  | _::_,[],h=>h.elim
def MadeK (w wr:World) (v:Value) (l:List Nd) (k p:Nat):Prop:=∃ cs d,Far l 0 k p d∧wr.ownsRow w.heap.size 22 1 v k cs∧OwnK w.heap.size v.ownBlock wr cs (kidsN k (l.drop 1))∧Below w.heap.size w wr
theorem MadeK.start (w:World) (l:List Nd):MadeK w w (.slice none 0 0) l 0 1:=⟨[],0,Far.start l 0,⟨rfl,.inl ⟨rfl,rfl⟩⟩,trivial,Below.refl _ _⟩
theorem MadeK.below {w wr wr':World} {v:Value} {l:List Nd} {k p:Nat} (h:MadeK w wr v l k p) (hb:Below wr.heap.size wr wr'):MadeK w wr' v l k p:=by
  obtain ⟨cs,d,h1,h2,h3,h4⟩:=h;exact ⟨cs,d,h1,Ap.own_below h2 hb,h3.below hb,h4.trans (hb.mono h4.size)⟩
theorem MadeK.next {w wr w1:World} {v a:Value} {l:List Nd} {k p c' d':Nat} (h:MadeK w wr v l k p) (ht:T (l.drop p)=some (c',d')) (hk:k≤2) (ha:w1.ownsRow wr.heap.size 36 3 a ((l.drop p).take c').length (cls ((l.drop p).take c'))) (hb1:Below wr.heap.size wr w1) (h1a:a.oneCell'=true) :
    ∃ v' w',(Builtin.append_ #[76,76] 76 #[v,.slice (some ⟨w1.heap.size,0,none⟩) 1 1]).run Tryz.prog (w1.alloc (.cells #[a] 22))=.ok v' w'∧MadeK w w' v' l (k+1) (p+c'):=by
  have h':=h.below hb1;obtain ⟨cs,d,hfar,hown,hrw,hb⟩:=h';have hb0:w.heap.size≤wr.heap.size:=by obtain ⟨_,_,_,_,_,hb⟩:=h; exact hb.size
  obtain ⟨i0,hi,hz,hs1,hb8⟩:=info_parts infoR
  obtain ⟨v',w',h1,h2,h3,h4,h5⟩:=Ap.z0w (P:=Tryz.prog) (ty:=76) Tryz.underlying76 hi hz hs1 hb8 (by rfl) (by omega) hown hb.size #[a] rfl
    (by intro u hu; simp at hu; subst hu; exact h1a) (by unfold maxLen; omega) (by omega)
  have hne:∀ g,a.ownBlock=some g→some g≠v.ownBlock:=by
    intro g hg e;obtain ⟨_,_,_,hown0,_⟩:=h;have h1:=Ap.z6g hown0 g e.symm;obtain ⟨_,⟨rfl,_⟩ | ⟨g',_,_,rfl,hg',_⟩⟩:=ha
    · cases hg
    · have:g'=g:=Option.some.inj hg;omega
  refine ⟨v',w',h1,cs++[a],max d d',hfar.next ht,h2,?_,hb.trans h4⟩;rw [x8n hfar ht];exact (hrw.snoc (Ap.z3y ha hb0) hne).grow h3 h5
theorem blk_own (v:Value):blk v=v.ownBlock:=by
  unfold blk Value.ownBlock
  rfl
def KidsOwn (ls:List (List Nd)) (w:World) (e:Ending) (w':World):Prop:=
  ∃ v cs,e=.returned v∧w'.ownsRow w.heap.size 22 1 v ls.length cs∧OwnK w.heap.size v.ownBlock w' cs ls∧Below w.heap.size w w'
theorem KidsOwn.post {ls:List (List Nd)} {w:World} {e:Ending} {w':World} (h:KidsOwn ls w e w'):KidsPost ls w e w':=by
  obtain ⟨v,cs,rfl,hown,hrw,hb⟩:=h;exact ⟨v,cs,rfl,Ap.RdO.fresh hown,by rw [blk_own]; exact hrw.ownC,hb⟩
theorem MadeK.done {w wr:World} {v:Value} {l:List Nd} {k p:Nat} (h:MadeK w wr v l k p) (hk:kids l=kidsN k (l.drop 1)):KidsOwn (kids l) w (.returned v) wr:=by
  obtain ⟨cs,d,_,hown,hrw,hb⟩:=h;refine ⟨v,cs,rfl,?_,?_,hb⟩
  · rw [hk,z9s];exact hown
  · rw [hk];exact hrw
theorem z3m {w:World} {base size n:Nat} {e:TypeId} {v:Value} {xs:List Value} (h:w.ownsRow base e size v n xs):∃ a c,v=.slice a n c:=by
  obtain ⟨_,⟨rfl,rfl⟩ | ⟨g,cap,cur,rfl,_⟩⟩:=h
  · exact ⟨none,0,rfl⟩
  · exact ⟨_,_,rfl⟩
theorem x3l (v:Value) (l:List Nd) (w:World) (hv:Nds w v l) (hl:l.length≤1000000) (hs:size l=0) :
    Calls Tryz.prog 50 #[v] w (KidsOwn (kids l) w):=by
  have HV:=Lib.hid hv;have HS:=Lib.hid hs
  have HK:Hid (kids l=[]):=by
    show _=_
    unfold kids;rw [if_pos hs]
  obtain ⟨_,a,cap,rfl,-⟩:=hv;clear hs;rw [HK.out]
  go_enter Tryz.func50,Tryz.ntmps50
  go_wp2_with fail;refine (z2j _ l _ HV.out hl).mono ?_;rw [HS.out];rintro e w' ⟨rfl,hb⟩;have HB:=Lib.hid hb;clear hb;go_wp2_with fail;go_ret;exact ⟨_,[],rfl,⟨rfl,.inl ⟨rfl,rfl⟩⟩,trivial,HB.out⟩
theorem x3m (b off:Nat) (l:List Nd) (w:World) (hn:Nds w (.slice (some ⟨b,off,none⟩) l.length 1) l) (hat:At w b off l) (hl:l.length≤1000000) (hcap:l.length≤1) (hs:size l≠0) :
    Calls Tryz.prog 50 #[.slice (some ⟨b,off,none⟩) l.length 1] w (KidsOwn (kids l) w):=by
  have h0:0<l.length:=by have:=size_le l; omega
  have HN:=Lib.hid hn;have HA:=Lib.hid hat;have hz:=size_le l;have HM:=Lib.hid (fun k p d=>y5o (k:=k) (p:=p) (d:=d) h0 hs);have HK:=Lib.hid (x8m h0 hs);have hbd:=x4p l[0].k;obtain ⟨e1,e2,e3⟩:=hat 0 h0;rw [Nat.zero_mul,Nat.add_zero] at e1 e2 e3;obtain ⟨z,hzz⟩:∃ z,size l=z:=⟨_,rfl⟩
  have HZ:=Lib.hid hzz;rw [hzz] at hs hz;have gz:((z:Int)==0)=false:=by rw [beq_eq_false_iff_ne]; omega
  obtain ⟨y,hy⟩:∃ y,l[0]=y:=⟨_,rfl⟩
  rw [hy] at hbd e1 e2 e3 HM HK;obtain ⟨x,hx⟩:∃ x,ar y.k=x:=⟨_,rfl⟩
  have HX:=Lib.hid hx;rw [hx] at hbd HM HK;have E1:=Lib.hid e1;have E2:=Lib.hid e2;have E3:=Lib.hid e3;have HBD:=Lib.hid hbd;clear hn hat hx hzz e1 e2 e3 hy hbd
  go_enter Tryz.func50,Tryz.ntmps50
  go_wp2_with fail;refine (z2j _ l _ HN.out hl).mono ?_;rw [HZ.out];rintro e w0 ⟨rfl,hb⟩;have HB0:=Lib.hid hb;have c1:w0.cell? ⟨b,off,none⟩=some (.int .i64 y.k):=by rw [hb.cell (Ap.z0a E1.out)]; exact E1.out
  have c2:w0.cell? ⟨b,off+1,none⟩=some (.string y.n):=by rw [hb.cell (Ap.z0a E2.out)]; exact E2.out
  have c3:w0.cell? ⟨b,off+2,none⟩=some (.int .i64 y.s):=by rw [hb.cell (Ap.z0a E3.out)]; exact E3.out
  clear hb;go_wp2_with fail;refine (z6x y.k _).mono ?_;rw [HX.out];rintro e w' ⟨rfl,rfl⟩;go_wp2_with fail
  have hx0:x≤0:=by
    by_cases hx:x≤0
    · exact hx
    · exfalso
      obtain ⟨c',d',ht⟩:=HM.out 0 1 0 (Far.start l 0) (by omega);rw [List.drop_eq_nil_of_le hcap,z7k] at ht
      cases ht
  refine Go.wp_loop_rounds 1 ?_;rw [rounds_succ];go_wp2_with fail;go_ret;exact ((MadeK.start w l).below HB0.out).done (by rw [HK.out,show x.toNat=0 by omega])
theorem y8g (b off cap:Nat) (l:List Nd) (w:World) (hn:Nds w (.slice (some ⟨b,off,none⟩) l.length cap) l) (hat:At w b off l) (hl:l.length≤1000000) (hcap:l.length≤cap) (hs:size l≠0) (hc1:¬ cap=1) :
    Calls Tryz.prog 50 #[.slice (some ⟨b,off,none⟩) l.length cap] w (KidsOwn (kids l) w):=by
  have h0:0<l.length:=by have:=size_le l; omega
  have HN:=Lib.hid hn;have HA:=Lib.hid hat;have hz:=size_le l;have HM:=Lib.hid (fun k p d=>y5o (k:=k) (p:=p) (d:=d) h0 hs);have HK:=Lib.hid (x8m h0 hs);have hbd:=x4p l[0].k;obtain ⟨e1,e2,e3⟩:=hat 0 h0;rw [Nat.zero_mul,Nat.add_zero] at e1 e2 e3;obtain ⟨z,hzz⟩:∃ z,size l=z:=⟨_,rfl⟩
  have HZ:=Lib.hid hzz;rw [hzz] at hs hz;have gz:((z:Int)==0)=false:=by rw [beq_eq_false_iff_ne]; omega
  obtain ⟨y,hy⟩:∃ y,l[0]=y:=⟨_,rfl⟩
  rw [hy] at hbd e1 e2 e3 HM HK;obtain ⟨x,hx⟩:∃ x,ar y.k=x:=⟨_,rfl⟩
  have HX:=Lib.hid hx;rw [hx] at hbd HM HK;have E1:=Lib.hid e1;have E2:=Lib.hid e2;have E3:=Lib.hid e3;have HBD:=Lib.hid hbd;clear hn hat hx hzz e1 e2 e3 hy hbd
  go_enter Tryz.func50,Tryz.ntmps50
  go_wp2_with fail;refine (z2j _ l _ HN.out hl).mono ?_;rw [HZ.out];rintro e w0 ⟨rfl,hb⟩;have HB0:=Lib.hid hb;have c1:w0.cell? ⟨b,off,none⟩=some (.int .i64 y.k):=by rw [hb.cell (Ap.z0a E1.out)]; exact E1.out
  have c2:w0.cell? ⟨b,off+1,none⟩=some (.string y.n):=by rw [hb.cell (Ap.z0a E2.out)]; exact E2.out
  have c3:w0.cell? ⟨b,off+2,none⟩=some (.int .i64 y.s):=by rw [hb.cell (Ap.z0a E3.out)]; exact E3.out
  clear hb;go_wp2_with fail;refine (z6x y.k _).mono ?_;rw [HX.out];rintro e w' ⟨rfl,rfl⟩;go_wp2_with fail
  go_loopw [3,4,16] (fun kv rv iv wr=>∃ k p o:Nat,(k:Int)≤max x 0∧p≤l.length∧rv=.slice (some ⟨b,o,none⟩) (l.length-p) (cap-p)∧(p<cap→o=off+p*3)∧iv=.int .i64 k∧Hid (MadeK w wr kv l k p)) (fun _ _ i _=>(x-intOf i).toNat)
  case atStart=>
    exact ⟨0,1,off+3,by omega,by omega,rfl,fun _=>by omega,rfl,Lib.hid ((MadeK.start w l).below HB0.out)⟩
  case round=>
    have HC1:=Lib.hid hc1; clear hc1;obtain ⟨k,p,o,hk,hp,rfl,ho,rfl,HD⟩:=hrel;have HB:Hid (Below w.heap.size w wr):=by obtain ⟨_,_,_,_,_,hb⟩:=HD.out; exact hb
    by_cases hkl:(k:Int)<x
    · obtain ⟨c',d',ht⟩:∃ c' d',T (l.drop p)=some (c',d'):=by
        obtain ⟨_,d,hfar,_⟩:=HD.out;exact HM.out k p d hfar hkl
      have hb':=T_bd ht;rw [List.length_drop] at hb';have HSZ:Hid (size (l.drop p)=c'):=by show _=_; unfold size; rw [ht]
      have HT:=Lib.hid ht;obtain rfl:=ho (by omega);have hNr:=z3x HA.out p (l.length-p) (cap-p) (by omega) (by omega);rw [List.take_of_length_le (by rw [List.length_drop]; exact Nat.le_refl _)] at hNr;have HNr:=Lib.hid (hNr.below HB.out);have HNp:=Lib.hid (z3x HA.out p c' (cap-p) (by omega) (by omega));have i1:1≤c':=by omega
      have i2:c'≤l.length-p:=by omega
      have i3:c'≤cap-p:=by omega
      have i4:k≤2:=by have:=HBD.out; omega
      have HLP:Hid ((l.drop p).length≤1000000∧((l.drop p).take c').length≤1000000):=by
        show _∧_
        rw [List.length_take,List.length_drop];omega
      clear ht hb' ho hNr;go_wp2_with fail;refine (z2j _ (l.drop p) _ HNr.out HLP.out.1).mono ?_;rw [HSZ.out];rintro e w1 ⟨rfl,hb1⟩;have HB1:=Lib.hid hb1;clear hb1;go_wp2_with fail;refine (y6t _ ((l.drop p).take c') _ ((HNp.out.below HB.out).below HB1.out) HLP.out.2).mono ?_;rintro e w2 ⟨a,rfl,hown,hb2⟩;have hB2:=HB1.out.trans (hb2.mono HB1.out.size);obtain ⟨v',w',hrun,hmk⟩:=HD.out.next HT.out i4 (Ap.z3y hown HB1.out.size) hB2 (by obtain ⟨_,_,rfl⟩:=z3m hown; rfl);obtain ⟨am,cm,rfl⟩:=z3m hown;rw [show ((l.drop p).take c').length=c' by rw [List.length_take,List.length_drop]; omega] at hrun ⊢;have R:=Lib.hid hrun;have HD':=Lib.hid hmk;clear hown hb2 hrun hmk hB2;go_wp2_with (at_builtin; refine Ap.wpList_append_run (by rfl) (.tmp 20) (.tmp 25) _ _ rfl _ _ rfl rfl v' w' R.out ?_)
      go_roundw
      case rel=>
        have l1:l.length-p-c'=l.length-(p+c'):=by omega
        have l2:cap-p-c'=cap-(p+c'):=by omega
        rw [l1,l2]
        by_cases hf:cap-p=c'
        · rw [if_pos hf];exact ⟨k+1,p+c',off+p*3,by omega,by omega,rfl,fun _=>by omega,by go_num,HD'⟩
        · rw [if_neg hf];exact ⟨k+1,p+c',off+p*3+c'*3,by omega,by omega,rfl,fun _=>by omega,by go_num,HD'⟩
      case measure=>simp [intOf]; omega
    · go_wp2_with fail;go_ret;exact HD.out.done (by rw [HK.out,show x.toNat=k by omega])
theorem z3p (v:Value) (l:List Nd) (w:World) (hv:Nds w v l) (hl:l.length≤1000000) :
    Calls Tryz.prog 50 #[v] w (KidsOwn (kids l) w):=by
  by_cases hs:size l=0
  · exact x3l v l w hv hl hs
  · rcases hv.form with ⟨rfl,_,_,rfl⟩ | ⟨b,off,cap,rfl,hc,hat⟩
    · exact absurd rfl hs
    · by_cases hc1:cap=1
      · subst hc1;exact x3m b off l w hv hat hl hc hs
      · exact y8g b off cap l w hv hat hl hc hs hc1
theorem z9r (v:Value) (l:List Nd) (w:World) (hv:Nds w v l) (hl:l.length≤1000000) :
    Calls Tryz.prog 50 #[v] w (KidsPost (kids l) w):=(z3p v l w hv hl).mono fun _ _ h=>h.post
end Rx
end Go.Proofs.YtaapnkoooofalaaGreat
