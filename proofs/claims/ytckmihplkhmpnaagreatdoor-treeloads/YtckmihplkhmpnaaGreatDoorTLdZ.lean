import Derived.Test.YtckmihplkhmpnaaGreatDoorTLdX
import Derived.Test.YtckmihplkhmpnaaGreatDoorTOnly
import Derived.SizedLaws
namespace Go.Proofs.YtckmihplkhmpnaaGreatDoor
open Go.RowKit Go.Maps Go.WideShapes
set_option linter.unusedVariables false
set_option linter.unusedSimpArgs false
attribute [local go_sem ↓] Go.wp_at_zero Go.wp_at_succ
theorem step_call4 {P:Program} {ops:Array Oper} {o:Oper} {a:Act} {w:World} {K:Act→World→Prop} {Q:Exit→Act→World→Prop} {E:Prop} (hgd:o.guard=none) (f:FuncId) (x1 x2 x3 x4:Operand) (ts:Array TypeId)
  (ho:o.op=.call { callee:=.value (.func f),args:=#[x1,x2,x3,x4],argTypes:=ts }) (ef:∀ args w,(callFunc f args).run P w=.ok (.enter f args) w) (u1 u2 u3 u4:Value) (h1:a.eval x1=u1) (h2:a.eval x2=u2) (h3:a.eval x3=u3) (h4:a.eval x4=u4) {R:Ending→World→Prop} (hc:Calls P f #[u1,u2,u3,u4] w R)
  (h:∀ e w',R e w'→∃ r,e=.returned r∧K (a.put o.dst r) w') :
  if Region.wanted o (yielded ops a.tmps)=true then Oper.wp P o a w K Q else E:=by
 have hw:Region.wanted o (yielded ops a.tmps)=true:=by simp [Region.wanted,hgd]
 rw [if_pos hw]
 have he:(execOp a.eval o).run P w=.ok (.enter f #[u1,u2,u3,u4]) w:=by
  have hf:a.eval (.func f)=.func (.func f) #[] #[]:=rfl
  simp [execOp,ho,resolve,invoke,Deferred.ofValue,h1,h2,h3,h4,hf,ef]
 unfold Oper.wp
 rw [he,Oper.upon_enter]
 refine hc.mono ?_
 intro e w' hR
 obtain ⟨r,rfl,hk⟩:=h e w' hR
 exact hk
set_option maxHeartbeats 16000000 in
set_option maxRecDepth 100000 in
theorem TreeLoads_walk (W:World) (a:Option Addr) (c:Nat) (T:List Nd) (b:Option Addr) (d:Nat) (l:List StT) (hT:FusAt W a T) (hsz:∀ x∈T,x.p.size≤140737488355328∧x.d.size≤140737488355328) (hTl:T.length≤1954687338211) (hl:l.length≤maxLen) (hs:Steps W b l) (hol:∀ x∈l,x.os.length≤2513169434846) (hg:GroundT W) (hgc:GroundC W) :
  Calls Tryz.prog 3 #[.slice a T.length c,.slice b l.length d] W fun e w'=>e=.returned (.bool true)∧Below W.heap.size W w':=by
 unfold maxLen at hl
 obtain ⟨i0,hi0,hz0,hz1,hz2⟩:=info_parts Tryz.infoRF
 obtain ⟨j0,hj0,hy0,hy1,hy2⟩:=info_parts Tryz.infoF
 have HT:Hid (FusAt W a T):=hT
 have HSZ:Hid _:=hsz
 have HS:Hid (Steps W b l):=hs
 have HOLA:Hid _:=hol
 have HG:Hid (GroundT W):=hg
 have HGC:Hid (GroundC W):=hgc
 have HSM:Hid (∀ x∈T,x.p.size≤maxLen∧x.d.size≤maxLen):=fun x hx=>by have:=hsz x hx;unfold maxLen;omega
 obtain ⟨N,hN⟩:∃ N,T.length=N:=⟨_,rfl⟩
 have HN:Hid (T.length=N):=hN
 obtain ⟨M,hM⟩:∃ M,l.length=M:=⟨_,rfl⟩
 have HM:Hid (l.length=M):=hM
 rw [hN] at hTl ⊢
 rw [hM] at hl ⊢
 clear hT hsz hs hol hg hgc hN hM
 go_enter Tryz.func3,Tryz.ntmps3
 go_wp2_with fail
 go_loopw [5,6,7] (fun lv rv i wr=>∃ q:Nat,i=.int .i64 q∧q≤N∧Hid (wr.ownsRow W.heap.size 26 7 lv q ((T.take q).flatMap Nd.cs))∧Hid (wr.ownsRow W.heap.size 27 7 rv q ((T.take q).flatMap Nd.cs))∧Hid (Below W.heap.size W wr)) (fun _ _ i _=>N - (intOf i).toNat)
 case atStart=>exact ⟨0,rfl,Nat.zero_le _,World.ownsRow_nil _ _ _ _,World.ownsRow_nil _ _ _ _,Below.refl _ _⟩
 case round =>
  obtain ⟨q,rfl,hq,HO,HP,HB⟩:=hrel
  have hsq:=HB.out.size
  by_cases hlt:q<N
  · have hlt':(q:Int)<(N:Int):=by omega
    obtain ⟨x,hx⟩:∃ x,T[q]? = some x:=⟨T[q]'(by rw [HN.out];exact hlt),List.getElem?_eq_getElem _⟩
    obtain ⟨gb,gf,rfl,_⟩:=HT.out q x hx
    obtain ⟨hgl,x0,x1,x2,x3,x4,x5,x6⟩:=(HT.out.below HB.out).cells hx
    have HXX:Hid (T[q]? = some x):=hx
    have HTK:Hid ((T.take (q+1)).flatMap Nd.cs=(T.take q).flatMap Nd.cs ++ [.string x.p,.string x.d,.int .i64 x.v,.int .i64 x.m,.int .i64 x.c,.int .i64 x.o,.int .i64 x.k]):=by show _=_;rw [List.take_add_one,hx,List.flatMap_append];simp [Nd.cs]
    obtain ⟨CQ,hCQ⟩:∃ z,(T.take q).flatMap Nd.cs=z:=⟨_,rfl⟩
    rw [hCQ] at HO HP HTK
    clear hx hCQ
    go_upto_region 7 with (first
     | (at_builtin;refine wpList_append_lies _ rfl _ _ _ rfl W.heap.size 26 i0 _ 7 72 Tryz.underlying24 hi0 hz0 hz1 hz2 rfl (by omega) u5 q CQ rfl (World.ownsRow.alloc HO.out _) ⟨wr.heap.size,0,none⟩ 1 1 [.string x.p,.string x.d,.int .i64 x.v,.int .i64 x.m,.int .i64 x.c,.int .i64 x.o,.int .i64 x.k] rfl rfl (World.news_of_block (cs:=#[.string x.p,.string x.d,.int .i64 x.v,.int .i64 x.m,.int .i64 x.c,.int .i64 x.o,.int .i64 x.k]) (t:=26) (fr:=(0,0)) (heap_alloc_new wr _)) (by simp [Value.oneCell']) (by omega) (by unfold maxLen;omega) (by omega) (by simp;omega) (wr.heap.size+1) (by simp) ?_
        intro g4 cap4 w4 hown4 hgrow4 hat4 hlt4
        have HN4:Hid (w4.ownsRow W.heap.size 26 7 (.slice (some ⟨g4,0,none⟩) (q+1) cap4) (q+1) (CQ ++ [.string x.p,.string x.d,.int .i64 x.v,.int .i64 x.m,.int .i64 x.c,.int .i64 x.o,.int .i64 x.k])):=hown4
        have HB4:Hid (Below W.heap.size W w4):=HB.out.trans (((Below.refl _ _).alloc (by omega) _).grown hgrow4 (by simp;omega) (fun j hj=>(HO.out.lt j hj).1))
        have HP4:Hid (w4.ownsRow W.heap.size 27 7 u6 q CQ):=owns_chg HP.out ((Chg.alloc _ _ _).trans (Chg.grown hgrow4)) (fun k hk e=>by
         obtain ⟨c8,h8⟩:=owns_kind HP.out hk
         obtain ⟨c9,h9⟩:=owns_kind HO.out e
         rw [h8] at h9
         simp at h9)
        clear hown4 hgrow4 hat4 hlt4)
     | fail)
    have hs4:=HB4.out.size
    clear x0 x1 x2 x3 x4 x5 x6
    obtain ⟨hgl4,x0,x1,x2,x3,x4,x5,x6⟩:=(HT.out.below HB4.out).cells HXX.out
    go_wp2_with (first
     | (at_builtin;refine wpList_append_lies _ rfl _ _ _ rfl W.heap.size 27 j0 _ 7 72 Tryz.underlying22 hj0 hy0 hy1 hy2 rfl (by omega) u6 q CQ rfl (World.ownsRow.alloc HP4.out _) ⟨w4.heap.size,0,none⟩ 1 1 [.string x.p,.string x.d,.int .i64 x.v,.int .i64 x.m,.int .i64 x.c,.int .i64 x.o,.int .i64 x.k] rfl rfl (World.news_of_block (cs:=#[.string x.p,.string x.d,.int .i64 x.v,.int .i64 x.m,.int .i64 x.c,.int .i64 x.o,.int .i64 x.k]) (t:=27) (fr:=(0,0)) (heap_alloc_new w4 _)) (by simp [Value.oneCell']) (by omega) (by unfold maxLen;omega) (by omega) (by simp;omega) (w4.heap.size+1) (by simp) ?_
        intro g5 cap5 w5 hown5 hgrow5 hat5 hlt5
        have HP5:Hid (w5.ownsRow W.heap.size 27 7 (.slice (some ⟨g5,0,none⟩) (q+1) cap5) (q+1) (CQ ++ [.string x.p,.string x.d,.int .i64 x.v,.int .i64 x.m,.int .i64 x.c,.int .i64 x.o,.int .i64 x.k])):=hown5
        have HB5:Hid (Below W.heap.size W w5):=HB4.out.trans (((Below.refl _ _).alloc (by omega) _).grown hgrow5 (by simp;omega) (fun j hj=>(HP4.out.lt j hj).1))
        have HO5:Hid (w5.ownsRow W.heap.size 26 7 (.slice (some ⟨g4,0,none⟩) (q+1) cap4) (q+1) (CQ ++ [.string x.p,.string x.d,.int .i64 x.v,.int .i64 x.m,.int .i64 x.c,.int .i64 x.o,.int .i64 x.k])):=owns_chg HN4.out ((Chg.alloc _ _ _).trans (Chg.grown hgrow5)) (fun k hk e=>by
         obtain ⟨c8,h8⟩:=owns_kind HN4.out hk
         obtain ⟨c9,h9⟩:=owns_kind HP4.out e
         rw [h8] at h9
         simp at h9)
        clear hown5 hgrow5 hat5 hlt5)
     | fail)
    go_roundw
    case rel=>exact ⟨q+1,by go_num,by omega,by show World.ownsRow _ _ _ _ _ _ _;rw [HTK.out];exact HO5.out,by show World.ownsRow _ _ _ _ _ _ _;rw [HTK.out];exact HP5.out,HB5.out⟩
    case measure=>simp [intOf];omega
  · obtain rfl:q=N:=by omega
    have hge:¬ (q:Int)<(q:Int):=by omega
    rw [List.take_of_length_le (by rw [HN.out];exact Nat.le_refl _)] at HO HP
    obtain ⟨CQ,hCQ⟩:∃ z,T.flatMap Nd.cs=z:=⟨_,rfl⟩
    have HCQ:Hid (T.flatMap Nd.cs=CQ):=hCQ
    rw [hCQ] at HO HP
    clear hCQ
    go_upto_region 9 with (first
     | (at_builtin;refine wpList_append_lies _ rfl _ _ _ rfl W.heap.size 27 j0 _ 7 72 Tryz.underlying22 hj0 hy0 hy1 hy2 rfl (by omega) u6 q CQ rfl (World.ownsRow.alloc HP.out _) ⟨wr.heap.size,0,none⟩ 1 1 [.string ⟨#[114,111,111,109]⟩,.string ⟨#[]⟩,.int .i64 0,.int .i64 0,.int .i64 0,.int .i64 0,.int .i64 0] rfl rfl (World.news_of_block (cs:=#[.string ⟨#[114,111,111,109]⟩,.string ⟨#[]⟩,.int .i64 0,.int .i64 0,.int .i64 0,.int .i64 0,.int .i64 0]) (t:=27) (fr:=(0,0)) (heap_alloc_new wr _)) (by simp [Value.oneCell']) (by omega) (by unfold maxLen;omega) (by omega) (by simp;omega) (wr.heap.size+1) (by simp) ?_
        intro g8 cap8 w8 hown8 hgrow8 hat8 hlt8
        have HR8:Hid (RoomAt w8 W.heap.size g8 cap8 T):=by
         show World.ownsRow _ _ _ _ _ _ _
         rw [fl_nd,List.flatMap_append,HCQ.out,HN.out]
         have h9:w8.ownsRow W.heap.size 27 7 (.slice (some ⟨g8,0,none⟩) (q+1) cap8) (q+1) (CQ ++ [.string ⟨#[114,111,111,109]⟩,.string ⟨#[]⟩,.int .i64 0,.int .i64 0,.int .i64 0,.int .i64 0,.int .i64 0]):=hown8
         simpa [roomN,Nd.cs] using h9
        have HB8:Hid (Below W.heap.size W w8):=HB.out.trans (((Below.refl _ _).alloc (by omega) _).grown hgrow8 (by simp;omega) (fun j hj=>(HP.out.lt j hj).1))
        have HO8:Hid (w8.ownsRow W.heap.size 26 7 u5 q CQ):=owns_chg HO.out ((Chg.alloc _ _ _).trans (Chg.grown hgrow8)) (fun k hk e=>by
         obtain ⟨c8,h8⟩:=owns_kind HO.out hk
         obtain ⟨c9,h9⟩:=owns_kind HP.out e
         rw [h8] at h9
         simp at h9)
        clear hown8 hgrow8 hat8 hlt8)
     | fail)
    obtain ⟨la,lc,rfl⟩:=slice_of' HO8.out
    have HL8:Hid (NdsAt w8 la T):=nds_row' (c:=lc) (n:=q) (B:=W.heap.size) (by rw [HCQ.out];exact HO8.out)
    have hcap8:q+1≤cap8:=by have:=owns_cap HR8.out;rw [HN.out] at this;exact this
    have hcap8':(q:Int)≤(cap8:Int):=by omega
    have HGW:Hid (W.heap.size≤g8):=(HR8.out.lt g8 rfl).1
    have hq62:q≤4611686018427387904:=by omega
    have HRL:Hid (∀ w',NdsAt w' la T→Calls Tryz.prog 4 #[.slice la q lc] w' (LoadD w' T)):=fun w' hn=>by
     have h9:=refLoad_all la lc T w' HSM.out hn
     rw [HN.out] at h9
     exact h9
    have HLO:Hid (∀ w',FusAt w' (some ⟨g8,0,none⟩) T→GroundT w'→Calls Tryz.prog 5 #[.slice (some ⟨g8,0,none⟩) q cap8] w' (LoadE w' T)):=fun w' hn hg=>by
     have h9:=load_all (some ⟨g8,0,none⟩) cap8 T w' hn HSM.out hg
     rw [HN.out] at h9
     exact h9
    have HFU:Hid (∀ (w':World) (x y:Option Addr) (cx cy:Nat),FusAt w' x T→NdsAt w' y T→Calls Tryz.prog 7 #[.slice x q cx,.slice y q cy] w' fun e w''=>e=.returned (.bool true)∧Below w'.heap.size w' w''):=fun w' x y cx cy h1 h2=>by
     have h9:=fullsG_any x y cx cy T w' h1 h2 (by rw [HN.out];exact hq62)
     rw [HN.out] at h9
     exact h9
    have HAG:Hid (∀ w',Below W.heap.size W w'→RoomAt w' W.heap.size g8 cap8 T→NdsAt w' la T→Calls Tryz.prog 8 #[.slice (some ⟨g8,0,none⟩) q cap8,.slice la q lc] w' fun e w''=>e=.returned (.bool true)∧(∃ U:List Nd,U.length=q∧RoomAt w'' W.heap.size g8 cap8 U)∧Chg w' w'' (fun k=>k=g8)):=fun w' hg h1 h2=>by
     have h9:=again_any W W.heap.size g8 cap8 la lc T w' rfl HG.out hg h1 h2 HSZ.out (by rw [HN.out];exact hTl) HGW.out
     rw [HN.out] at h9
     exact h9
    have HRM:Hid (∀ w',RoomAt w' W.heap.size g8 cap8 T→∀ j v,roomN.cs[j]? = some v→w'.cell? ⟨g8,q * 7+j,none⟩=some v):=fun w' h1 j v hv=>by
     obtain ⟨b9,f9,e9,_,hc9⟩:=h1.fusR q roomN (by rw [List.getElem?_append_right (by rw [HN.out];exact Nat.le_refl _),HN.out,Nat.sub_self];rfl)
     obtain ⟨rfl,rfl⟩:g8=b9∧0=f9:=by simpa using e9
     have:=hc9 j v hv
     rw [Nat.zero_add] at this
     exact this
    clear hge
    by_cases hcd:loadC T=0
    · skip
      go_wp2_with fail
      refine Calls.mono (HRL.out w8 HL8.out) ?_
      rintro e w9 ⟨hb9,hE9⟩
      obtain ⟨la9,lc9,rfl,hn9⟩:∃ la lc,e=.returned (.tuple #[rtV la T.length lc,.int .i64 0])∧NdsAt w9 la T:=by
       rcases hE9 with h9 | h9
       · exact absurd hcd h9.1
       · exact h9.2
      have HN9:Hid (NdsAt w9 la9 T):=hn9
      simp only [HN.out]
      have HR9:Hid (RoomAt w9 W.heap.size g8 cap8 T):=HR8.out.below hb9
      have HL9:Hid (NdsAt w9 la T):=HL8.out.below hb9
      have HB9:Hid (Below W.heap.size W w9):=trans2 HB8.out hb9
      clear hE9 hb9 hn9
      go_upto_region 10 with fail
      obtain ⟨w10,hw10⟩:∃ z,w9.alloc (.cells #[.slice la9 q lc9] 29)=z:=⟨_,rfl⟩
      obtain ⟨vb,hvb⟩:∃ z,w9.heap.size=z:=⟨_,rfl⟩
      have hb10:Below w9.heap.size w9 w10:=by rw [← hw10];exact (Below.refl _ _).alloc (Nat.le_refl _) _
      have HV10:Hid (w10.heap[vb]? = some (.cells #[.slice la9 q lc9] 29 (0,0))):=by rw [← hw10,← hvb];exact heap_alloc_new _ _
      have HVW:Hid (W.heap.size≤vb):=by rw [← hvb];exact HB9.out.size
      have HR10:Hid (RoomAt w10 W.heap.size g8 cap8 T):=HR9.out.below hb10
      have HL10:Hid (NdsAt w10 la T):=HL9.out.below hb10
      have HB10:Hid (Below W.heap.size W w10):=trans2 HB9.out hb10
      have HN10:Hid (NdsAt w10 la9 T):=HN9.out.below hb10
      rw [hw10,hvb]
      clear hw10 hvb hb10
      go_wp2_with fail
      refine Calls.mono (HLO.out w10 HR10.out.fus (HG.out.below HB10.out)) ?_
      rintro e w11 ⟨hb11,hE11⟩
      obtain ⟨ub,rfl,ht11⟩:∃ ub,e=.returned (.tuple #[.pointer (some ⟨ub,0,none⟩),.int .i64 0])∧TrAt w11 w10.heap.size ub 8 T:=by
       rcases hE11 with h9 | h9
       · exact absurd hcd h9.1
       · exact h9.2
      have HT11:Hid (TrAt w11 W.heap.size ub 8 T):=ht11.base HB10.out.size
      have HN11:Hid (NdsAt w11 la9 T):=HN10.out.below hb11
      have HRGT:Hid (Rng T):=(loadC_ok hcd).2
      clear ht11 hcd
      have HV11:Hid _:=kept_block hb11 HV10.out
      have HR11:Hid (RoomAt w11 W.heap.size g8 cap8 T):=HR10.out.below hb11
      have HL11:Hid (NdsAt w11 la T):=HL10.out.below hb11
      have HB11:Hid (Below W.heap.size W w11):=trans2 HB10.out hb11
      clear hE11 hb11
      have m0:w11.cell? ⟨g8,q * 7,none⟩=some (.string ⟨#[114,111,111,109]⟩):=HRM.out w11 HR11.out 0 _ rfl
      have m1:w11.cell? ⟨g8,q * 7+1,none⟩=some (.string ⟨#[]⟩):=HRM.out w11 HR11.out 1 _ rfl
      have m2:w11.cell? ⟨g8,q * 7+2,none⟩=some (.int .i64 0):=HRM.out w11 HR11.out 2 _ rfl
      have m3:w11.cell? ⟨g8,q * 7+3,none⟩=some (.int .i64 0):=HRM.out w11 HR11.out 3 _ rfl
      have m4:w11.cell? ⟨g8,q * 7+4,none⟩=some (.int .i64 0):=HRM.out w11 HR11.out 4 _ rfl
      have m5:w11.cell? ⟨g8,q * 7+5,none⟩=some (.int .i64 0):=HRM.out w11 HR11.out 5 _ rfl
      have m6:w11.cell? ⟨g8,q * 7+6,none⟩=some (.int .i64 0):=HRM.out w11 HR11.out 6 _ rfl
      have hqlt:(q:Int)<(q:Int)+1:=by omega
      go_wp2_with (first | (go_at_call 6;go_in) | fail)
      refine Calls.mono (HFU.out w11 _ _ _ _ HR11.out.fus HL11.out) ?_
      rintro e w12 ⟨rfl,hb12⟩
      have HV12:Hid _:=kept_block hb12 HV11.out
      have HR12:Hid (RoomAt w12 W.heap.size g8 cap8 T):=HR11.out.below hb12
      have HL12:Hid (NdsAt w12 la T):=HL11.out.below hb12
      have HB12:Hid (Below W.heap.size W w12):=trans2 HB11.out hb12
      have HT12:Hid (TrAt w12 W.heap.size ub 8 T):=HT11.out.below hb12
      have HN12:Hid (NdsAt w12 la9 T):=HN11.out.below hb12
      clear hb12 m0 m1 m2 m3 m4 m5 m6
      go_wp2_with fail
      refine Calls.mono (HAG.out w12 HB12.out HR12.out HL12.out) ?_
      rintro e w13 ⟨rfl,⟨U,hUl,hU⟩,hc13⟩
      have HU13:Hid (RoomAt w13 W.heap.size g8 cap8 U):=hU
      have HUL:Hid (U.length=q):=hUl
      obtain ⟨kc,hkg⟩:∃ cur,w12.heap[g8]? = some (.cells cur 27 (0,0)):=owns_kind HR12.out (k:=g8) rfl
      have HV13:Hid (w13.heap[vb]? = some (.cells #[.slice la9 q lc9] 29 (0,0))):=kept_chg hc13 HV12.out (fun e=>by
       have h9:=hkg
       rw [← show vb=g8 from e,HV12.out] at h9
       simp at h9)
      have HB13:Hid (Below W.heap.size W w13):=HB12.out.trans (hc13.below HB12.out.size (fun k _ e=>by rw [show k=g8 from e];exact HGW.out))
      have HT13:Hid (TrAt w13 W.heap.size ub 8 T):=HT12.out.chg hc13 (fun k e=>.inl ⟨kc,27,by decide,by rw [show k=g8 from e];exact hkg⟩)
      have HN13:Hid (NdsAt w13 la9 T):=HN12.out.chg hc13 (fun k e cur hk=>by
       rw [show k=g8 from e,hkg] at hk
       simp at hk)
      clear hU hUl hc13 hkg
      go_wp2_with fail
      have hl5:(0:Int)≤(q:Int)+1:=by omega
      go_loopw [12] (fun i wq=>∃ p:Nat,i=.int .i64 p∧p≤q+1∧(∃ xs,Hid (wq.ownsRow W.heap.size 27 7 (.slice (some ⟨g8,0,none⟩) (q+1) cap8) (q+1) xs))∧Hid (Chg w13 wq (fun k=>k=g8))) (fun i _=>q+1 - (intOf i).toNat)
      case atStart=>exact ⟨0,rfl,Nat.zero_le _,⟨_,by have h9:=HU13.out;unfold RoomAt at h9;rw [HUL.out] at h9;exact h9⟩,Chg.refl _ _⟩
      case round =>
       obtain ⟨p,rfl,hp,⟨xs,HRk⟩,HCk⟩:=hrel
       by_cases hlt2:p<q+1
       · obtain ⟨r0,k0⟩:=some_n (k:=p * 7) HRk.out (by omega)
         obtain ⟨r1,k1⟩:=some_n (k:=p * 7+1) HRk.out (by omega)
         obtain ⟨r2,k2⟩:=some_n (k:=p * 7+2) HRk.out (by omega)
         obtain ⟨r3,k3⟩:=some_n (k:=p * 7+3) HRk.out (by omega)
         obtain ⟨r4,k4⟩:=some_n (k:=p * 7+4) HRk.out (by omega)
         obtain ⟨r5,k5⟩:=some_n (k:=p * 7+5) HRk.out (by omega)
         obtain ⟨r6,k6⟩:=some_n (k:=p * 7+6) HRk.out (by omega)
         have fz:=blk_of HRk.out
         have hlt2':(p:Int)<(q:Int)+1:=by omega
         have HRn:Hid _:=Fa.owns_set (k:=p * 7+6) (Fa.owns_set (k:=p * 7+5) (Fa.owns_set (k:=p * 7+4) (Fa.owns_set (k:=p * 7+3) (Fa.owns_set (k:=p * 7+2) (Fa.owns_set (k:=p * 7+1) (Fa.owns_set (k:=p * 7) HRk.out (.string ⟨#[115,112,111,105,108,116]⟩)) (.string ⟨#[]⟩)) (.int .i64 99)) (.int .i64 0)) (.int .i64 0)) (.int .i64 0)) (.int .i64 0)
         go_wp2_with fail
         go_roundw
         case rel=>exact ⟨p+1,by go_num,by omega,⟨_,HRn.out⟩,((((((HCk.out.trans (Chg.set _ _ _)).trans (Chg.set _ _ _)).trans (Chg.set _ _ _)).trans (Chg.set _ _ _)).trans (Chg.set _ _ _)).trans (Chg.set _ _ _)).trans (Chg.set _ _ _)⟩
         case measure=>simp [intOf];omega
       · obtain rfl:p=q+1:=by omega
         have hge2:¬ ((q:Int)+1<(q:Int)+1):=by omega
         obtain ⟨kc,hkg⟩:∃ cur,w13.heap[g8]? = some (.cells cur 27 (0,0)):=owns_kind HU13.out (k:=g8) rfl
         have HVq:Hid (wr.heap[vb]? = some (.cells #[.slice la9 q lc9] 29 (0,0))):=kept_chg HCk.out HV13.out (fun e=>by
          have h9:=hkg
          rw [← show vb=g8 from e,HV13.out] at h9
          simp at h9)
         have HBq:Hid (Below W.heap.size W wr):=HB13.out.trans (HCk.out.below HB13.out.size (fun k _ e=>by rw [show k=g8 from e];exact HGW.out))
         have HTq:Hid (TrAt wr W.heap.size ub 8 T):=HT13.out.chg HCk.out (fun k e=>.inl ⟨kc,27,by decide,by rw [show k=g8 from e];exact hkg⟩)
         have HNq:Hid (NdsAt wr la9 T):=HN13.out.chg HCk.out (fun k e cur hk=>by
          rw [show k=g8 from e,hkg] at hk
          simp at hk)
         clear hkg
         have HVt:Hid (wr.heap[vb]? = some (.cells #[.slice la9 T.length lc9] 29 (0,0))):=by rw [HN.out];exact HVq.out
         go_wp2_with fail
         refine Calls.mono (nodes_tr W.heap.size ub 8 T wr HTq.out) ?_
         rintro e w21 ⟨g21,cap21,rfl,hr21,hb21⟩
         have HR21:Hid (w21.ownsRow wr.heap.size 27 7 (.slice (some ⟨g21,0,none⟩) T.length cap21) T.length (T.flatMap Nd.cs)):=hr21
         have HT21:Hid (TrAt w21 W.heap.size ub 8 T):=HTq.out.below hb21
         have HN21:Hid (NdsAt w21 la9 T):=HNq.out.below hb21
         have HV21:Hid _:=kept_block hb21 HVt.out
         have HB21:Hid (Below W.heap.size W w21):=trans2 HBq.out hb21
         have v0:=cells_1 HV21.out
         clear hr21 hb21
         go_wp2_with fail
         refine Calls.mono (refNodes_any la9 lc9 T w21 HN21.out HT21.out.snd.inv.len) ?_
         rintro e w22 ⟨v22,rfl,hr22,hb22⟩
         have HT22:Hid (TrAt w22 W.heap.size ub 8 T):=HT21.out.below hb22
         have HN22:Hid (NdsAt w22 la9 T):=HN21.out.below hb22
         have HV22:Hid _:=kept_block hb22 HV21.out
         have HB22:Hid (Below W.heap.size W w22):=trans2 HB21.out hb22
         have HF22:Hid _:=fullsT_any wr.heap.size w21.heap.size (.slice (some ⟨g21,0,none⟩) T.length cap21) v22 T w22 (owns_chg HR21.out (Chg.of_below hb22 (fun _=>False)) (fun _ _=>id)) hr22 (by have:=HT21.out.snd.inv.len;omega)
         clear hr22 hb22 v0
         go_wp2_with fail
         refine Calls.mono HF22.out ?_
         rintro e w23 ⟨rfl,hb23⟩
         have HT23:Hid (TrAt w23 W.heap.size ub 8 T):=HT22.out.below hb23
         have HN23:Hid (NdsAt w23 la9 T):=HN22.out.below hb23
         have HV23:Hid _:=kept_block hb23 HV22.out
         have HB23:Hid (Below W.heap.size W w23):=trans2 HB22.out hb23
         clear hb23
         go_upto_region 25 with fail
         obtain ⟨w24,hw24⟩:∃ y,w23.alloc (.cells #[.slice none 0 0] 44)=y:=⟨_,rfl⟩
         obtain ⟨db,hdb⟩:∃ y,w23.heap.size=y:=⟨_,rfl⟩
         have hb24:Below w23.heap.size w23 w24:=by rw [← hw24];exact (Below.refl _ _).alloc (Nat.le_refl _) _
         have HV24:Hid (w24.heap[vb]? = some (.cells #[.slice la9 T.length lc9] 29 (0,0))):=kept_block hb24 HV23.out
         have HD24:Hid (DeskAt w24 W.heap.size db (.slice none 0 0)):=⟨by rw [← hw24,← hdb];exact heap_alloc_new _ _,by rw [← hdb];exact HB23.out.size,0,[],World.ownsRow_nil _ _ _ _⟩
         have HS24:Hid (Sit W w24 db ub 8 (.slice none 0 0) la9 T):=⟨trans2 HB23.out hb24,HD24.out,HT23.out.below hb24,HN23.out.below hb24,HRGT.out⟩
         rw [hw24,hdb]
         clear hw24 hdb hb24
         go_wp2_with fail
         go_loopw [10,15] (fun t i wr=>∃ (p tb q':Nat) (dv:Value) (a':Option Addr) (c':Nat) (U:List Nd),t=.pointer (some ⟨tb,0,none⟩)∧i=.int .i64 p∧p≤M∧p≤120∧q'≤8+p∧Hid (Sit W wr db tb q' dv a' U)∧Hid (wr.heap[vb]? = some (.cells #[.slice a' U.length c'] 29 (0,0)))) (fun _ i _=>M - (intOf i).toNat)
         case atStart=>exact ⟨0,ub,8,_,_,lc9,T,rfl,rfl,Nat.zero_le _,Nat.zero_le _,Nat.le_refl _,HS24.out,HV24.out⟩
         case round =>
          obtain ⟨p,tb,q',dv,a',c',U,rfl,rfl,hp2,hp120,hq',HSr,HVr⟩:=hrel
          have HBr:Hid (Below W.heap.size W wr):=HSr.out.low
          by_cases hlt3:p<M
          · have hlt3':(p:Int)<(M:Int):=by omega
            by_cases h120:(p:Int)<120
            · obtain ⟨x,hx⟩:∃ x,l[p]? = some x:=⟨l[p]'(by rw [HM.out];exact hlt3),List.getElem?_eq_getElem _⟩
              have HPL:Hid (∀ w',Below wr.heap.size wr w'→Calls Tryz.prog 12 #[.pointer (some ⟨tb,0,none⟩),rtV a' U.length c',.agg #[.int .i64 x.k,.int .i64 x.s,.int .i64 x.st,.slice x.a x.os.length x.c,.string x.pl,.int .i64 x.nn],.pointer (some ⟨db,0,none⟩)] w' (PlE W w' db tb q' dv (runS U x))):=fun w' hb=>by
               obtain ⟨b,f,_,_,_,ho,hok⟩:=HS.out p x hx
               exact ply_any W w' db tb q' dv a' c' U (HSr.out.below hb) HG.out HGC.out (by omega) x ho hok (HOLA.out x (List.mem_of_getElem? hx))
              have HEP:Hid (∀ args w,(callFunc 12 args).run Tryz.prog w=.ok (.enter 12 args) w):=enters_of Tryz.func12 (by kernel_rfl) rfl
              obtain ⟨b,f,rfl,hbl,hcs,_,_⟩:=HS.out p x hx
              have hcell:∀ w',Below W.heap.size W w'→∀ j v,x.cells[j]? = some v→w'.cell? ⟨b,f+p * 6+j,none⟩=some v:=fun w' hb j v hv=>by rw [hb.cell (p:=⟨b,f+p * 6+j,none⟩) hbl];exact hcs j v hv
              have HCE:Hid _:=hcell
              have k0:wr.cell? ⟨b,f+p * 6,none⟩=some (.int .i64 x.k):=hcell wr HBr.out 0 _ rfl
              have k1:=hcell wr HBr.out 1 _ rfl
              have k2:=hcell wr HBr.out 2 _ rfl
              have k3':=hcell wr HBr.out 3 _ rfl
              have k4:=hcell wr HBr.out 4 _ rfl
              have k5:=hcell wr HBr.out 5 _ rfl
              have v0:=cells_1 HVr.out
              obtain ⟨T2,hT2⟩:∃ y,runS U x=y:=⟨_,rfl⟩
              obtain ⟨TN,hTN⟩:∃ y,U.length=y:=⟨_,rfl⟩
              obtain ⟨ON,hON⟩:∃ y,x.os.length=y:=⟨_,rfl⟩
              obtain ⟨TN2,hTN2⟩:∃ y,T2.length=y:=⟨_,rfl⟩
              rw [hT2,hTN,hON] at HPL
              rw [hTN] at v0
              have k3:wr.cell? ⟨b,f+p * 6+3,none⟩=some (.slice x.a ON x.c):=by rw [← hON];exact k3'
              have HTN2:Hid (T2.length=TN2):=hTN2
              clear hcell hcs hx hT2 hTN hON k3' hTN2
              go_wp2_with fail
              go_region_law
               (first
               | (refine step_call4 (by rfl) 12 _ _ _ _ _ (by rfl) HEP.out (.pointer (some ⟨tb,0,none⟩)) (rtV a' TN c') (.agg #[.int .i64 x.k,.int .i64 x.s,.int .i64 x.st,.slice x.a ON x.c,.string x.pl,.int .i64 x.nn]) (.pointer (some ⟨db,0,none⟩)) (by rfl) (by rfl) (by rfl) (by rfl) (HPL.out _ (below_drew (Below.refl _ _))) ?_
                  rintro e w4 ⟨tb4,q4,dv4,a4,c4,rfl,hs4,hq4,hc4,_⟩
                  refine ⟨_,rfl,?_⟩
                  have HS4:Hid (Sit W w4 db tb4 q4 dv4 a4 T2):=hs4
                  have HV4:Hid _:=PlE.keep HSr.out (chg_undrew hc4) HVr.out
                  have v0:=cells_1 HV4.out
                  have vf:=free_1 HV4.out
                  simp only [HTN2.out]
                  clear hs4 hc4)
               | fail)
              all_goals (
               go_wp2_with fail
               go_roundw
               case rel=>exact ⟨p+1,tb4,q4,dv4,a4,c4,T2,rfl,by go_num,by omega,by omega,by omega,HS4.out.set HV4.out HVW.out,by show _=_;rw [HTN2.out];exact same_blk HV4.out rfl⟩
               case measure=>simp [intOf];omega)
            · skip
              go_wp2_with fail
              refine Calls.mono (nodes_tr W.heap.size tb q' U wr HSr.out.tr) ?_
              rintro e w31 ⟨g31,cap31,rfl,hr31,hb31⟩
              have HR31:Hid (w31.ownsRow wr.heap.size 27 7 (.slice (some ⟨g31,0,none⟩) U.length cap31) U.length (U.flatMap Nd.cs)):=hr31
              have HS31:Hid (Sit W w31 db tb q' dv a' U):=HSr.out.below hb31
              have HV31:Hid _:=kept_block hb31 HVr.out
              have v0:=cells_1 HV31.out
              clear hr31 hb31
              go_wp2_with fail
              refine Calls.mono (refNodes_any a' c' U w31 HS31.out.nds HS31.out.tr.snd.inv.len) ?_
              rintro e w32 ⟨v32,rfl,hr32,hb32⟩
              have HB32:Hid (Below W.heap.size W w32):=trans2 HS31.out.low hb32
              have HF32:Hid _:=fullsT_any wr.heap.size w31.heap.size (.slice (some ⟨g31,0,none⟩) U.length cap31) v32 U w32 (owns_chg HR31.out (Chg.of_below hb32 (fun _=>False)) (fun _ _=>id)) hr32 (by have:=HS31.out.tr.snd.inv.len;omega)
              clear hr32 hb32 v0
              go_wp2_with fail
              refine Calls.mono HF32.out ?_
              rintro e w33 ⟨rfl,hb33⟩
              have HB33:Hid (Below W.heap.size W w33):=trans2 HB32.out hb33
              clear hb33
              go_wp2_with fail
              refine (knownT_any w33 (HG.out.below HB33.out)).mono ?_
              rintro e w34 ⟨rfl,hb34⟩
              have HB34:Hid (Below W.heap.size W w34):=trans2 HB33.out hb34
              clear hb34
              go_wp2_with fail
              go_ret
              exact ⟨rfl,HB34.out⟩
          · have hge3:¬ (p:Int)<(M:Int):=by omega
            go_wp2_with fail
            refine Calls.mono (nodes_tr W.heap.size tb q' U wr HSr.out.tr) ?_
            rintro e w31 ⟨g31,cap31,rfl,hr31,hb31⟩
            have HR31:Hid (w31.ownsRow wr.heap.size 27 7 (.slice (some ⟨g31,0,none⟩) U.length cap31) U.length (U.flatMap Nd.cs)):=hr31
            have HS31:Hid (Sit W w31 db tb q' dv a' U):=HSr.out.below hb31
            have HV31:Hid _:=kept_block hb31 HVr.out
            have v0:=cells_1 HV31.out
            clear hr31 hb31
            go_wp2_with fail
            refine Calls.mono (refNodes_any a' c' U w31 HS31.out.nds HS31.out.tr.snd.inv.len) ?_
            rintro e w32 ⟨v32,rfl,hr32,hb32⟩
            have HB32:Hid (Below W.heap.size W w32):=trans2 HS31.out.low hb32
            have HF32:Hid _:=fullsT_any wr.heap.size w31.heap.size (.slice (some ⟨g31,0,none⟩) U.length cap31) v32 U w32 (owns_chg HR31.out (Chg.of_below hb32 (fun _=>False)) (fun _ _=>id)) hr32 (by have:=HS31.out.tr.snd.inv.len;omega)
            clear hr32 hb32 v0
            go_wp2_with fail
            refine Calls.mono HF32.out ?_
            rintro e w33 ⟨rfl,hb33⟩
            have HB33:Hid (Below W.heap.size W w33):=trans2 HB32.out hb33
            clear hb33
            go_wp2_with fail
            refine (knownT_any w33 (HG.out.below HB33.out)).mono ?_
            rintro e w34 ⟨rfl,hb34⟩
            have HB34:Hid (Below W.heap.size W w34):=trans2 HB33.out hb34
            clear hb34
            go_wp2_with fail
            go_ret
            exact ⟨rfl,HB34.out⟩
    · skip
      go_wp2_with fail
      refine Calls.mono (HRL.out w8 HL8.out) ?_
      rintro e w9 ⟨hb9,hE9⟩
      obtain ⟨cd,hcd'⟩:∃ cd,loadC T=cd:=⟨_,rfl⟩
      obtain rfl:e=.returned (.tuple #[rtV none 0 0,.int .i64 cd]):=by
       rcases hE9 with h9 | h9
       · rw [← hcd'];exact h9.2
       · exact absurd h9.1 hcd
      have hcb:(cd != 0)=true:=by rw [← hcd'];simpa using hcd
      have HCD:Hid (loadC T=cd∧cd≠0):=⟨hcd',by rw [← hcd'];exact hcd⟩
      have HR9:Hid (RoomAt w9 W.heap.size g8 cap8 T):=HR8.out.below hb9
      have HL9:Hid (NdsAt w9 la T):=HL8.out.below hb9
      have HB9:Hid (Below W.heap.size W w9):=trans2 HB8.out hb9
      clear hE9 hb9 hcd' hcd
      go_upto_region 10 with fail
      obtain ⟨w10,hw10⟩:∃ z,w9.alloc (.cells #[.slice none 0 0] 29)=z:=⟨_,rfl⟩
      obtain ⟨vb,hvb⟩:∃ z,w9.heap.size=z:=⟨_,rfl⟩
      have hb10:Below w9.heap.size w9 w10:=by rw [← hw10];exact (Below.refl _ _).alloc (Nat.le_refl _) _
      have HV10:Hid (w10.heap[vb]? = some (.cells #[.slice none 0 0] 29 (0,0))):=by rw [← hw10,← hvb];exact heap_alloc_new _ _
      have HVW:Hid (W.heap.size≤vb):=by rw [← hvb];exact HB9.out.size
      have HR10:Hid (RoomAt w10 W.heap.size g8 cap8 T):=HR9.out.below hb10
      have HL10:Hid (NdsAt w10 la T):=HL9.out.below hb10
      have HB10:Hid (Below W.heap.size W w10):=trans2 HB9.out hb10
      rw [hw10,hvb]
      clear hw10 hvb hb10
      go_wp2_with fail
      refine Calls.mono (HLO.out w10 HR10.out.fus (HG.out.below HB10.out)) ?_
      rintro e w11 ⟨hb11,hE11⟩
      obtain rfl:e=.returned (.tuple #[.pointer none,.int .i64 cd]):=by
       rcases hE11 with h9 | h9
       · rw [← HCD.out.1];exact h9.2
       · exact absurd (HCD.out.1.symm.trans h9.1) HCD.out.2
      have HV11:Hid _:=kept_block hb11 HV10.out
      have HR11:Hid (RoomAt w11 W.heap.size g8 cap8 T):=HR10.out.below hb11
      have HL11:Hid (NdsAt w11 la T):=HL10.out.below hb11
      have HB11:Hid (Below W.heap.size W w11):=trans2 HB10.out hb11
      clear hE11 hb11
      have m0:w11.cell? ⟨g8,q * 7,none⟩=some (.string ⟨#[114,111,111,109]⟩):=HRM.out w11 HR11.out 0 _ rfl
      have m1:w11.cell? ⟨g8,q * 7+1,none⟩=some (.string ⟨#[]⟩):=HRM.out w11 HR11.out 1 _ rfl
      have m2:w11.cell? ⟨g8,q * 7+2,none⟩=some (.int .i64 0):=HRM.out w11 HR11.out 2 _ rfl
      have m3:w11.cell? ⟨g8,q * 7+3,none⟩=some (.int .i64 0):=HRM.out w11 HR11.out 3 _ rfl
      have m4:w11.cell? ⟨g8,q * 7+4,none⟩=some (.int .i64 0):=HRM.out w11 HR11.out 4 _ rfl
      have m5:w11.cell? ⟨g8,q * 7+5,none⟩=some (.int .i64 0):=HRM.out w11 HR11.out 5 _ rfl
      have m6:w11.cell? ⟨g8,q * 7+6,none⟩=some (.int .i64 0):=HRM.out w11 HR11.out 6 _ rfl
      have hqlt:(q:Int)<(q:Int)+1:=by omega
      go_wp2_with (first | (go_at_call 6;go_in) | fail)
      refine Calls.mono (HFU.out w11 _ _ _ _ HR11.out.fus HL11.out) ?_
      rintro e w12 ⟨rfl,hb12⟩
      have HV12:Hid _:=kept_block hb12 HV11.out
      have HR12:Hid (RoomAt w12 W.heap.size g8 cap8 T):=HR11.out.below hb12
      have HL12:Hid (NdsAt w12 la T):=HL11.out.below hb12
      have HB12:Hid (Below W.heap.size W w12):=trans2 HB11.out hb12
      clear hb12 m0 m1 m2 m3 m4 m5 m6
      go_wp2_with fail
      refine Calls.mono (HAG.out w12 HB12.out HR12.out HL12.out) ?_
      rintro e w13 ⟨rfl,⟨U,hUl,hU⟩,hc13⟩
      have HU13:Hid (RoomAt w13 W.heap.size g8 cap8 U):=hU
      have HUL:Hid (U.length=q):=hUl
      obtain ⟨kc,hkg⟩:∃ cur,w12.heap[g8]? = some (.cells cur 27 (0,0)):=owns_kind HR12.out (k:=g8) rfl
      have HV13:Hid (w13.heap[vb]? = some (.cells #[.slice none 0 0] 29 (0,0))):=kept_chg hc13 HV12.out (fun e=>by
       have h9:=hkg
       rw [← show vb=g8 from e,HV12.out] at h9
       simp at h9)
      have HB13:Hid (Below W.heap.size W w13):=HB12.out.trans (hc13.below HB12.out.size (fun k _ e=>by rw [show k=g8 from e];exact HGW.out))
      clear hU hUl hc13 hkg
      go_wp2_with fail
      have hl5:(0:Int)≤(q:Int)+1:=by omega
      go_loopw [12] (fun i wq=>∃ p:Nat,i=.int .i64 p∧p≤q+1∧(∃ xs,Hid (wq.ownsRow W.heap.size 27 7 (.slice (some ⟨g8,0,none⟩) (q+1) cap8) (q+1) xs))∧Hid (Chg w13 wq (fun k=>k=g8))) (fun i _=>q+1 - (intOf i).toNat)
      case atStart=>exact ⟨0,rfl,Nat.zero_le _,⟨_,by have h9:=HU13.out;unfold RoomAt at h9;rw [HUL.out] at h9;exact h9⟩,Chg.refl _ _⟩
      case round =>
       obtain ⟨p,rfl,hp,⟨xs,HRk⟩,HCk⟩:=hrel
       by_cases hlt2:p<q+1
       · obtain ⟨r0,k0⟩:=some_n (k:=p * 7) HRk.out (by omega)
         obtain ⟨r1,k1⟩:=some_n (k:=p * 7+1) HRk.out (by omega)
         obtain ⟨r2,k2⟩:=some_n (k:=p * 7+2) HRk.out (by omega)
         obtain ⟨r3,k3⟩:=some_n (k:=p * 7+3) HRk.out (by omega)
         obtain ⟨r4,k4⟩:=some_n (k:=p * 7+4) HRk.out (by omega)
         obtain ⟨r5,k5⟩:=some_n (k:=p * 7+5) HRk.out (by omega)
         obtain ⟨r6,k6⟩:=some_n (k:=p * 7+6) HRk.out (by omega)
         have fz:=blk_of HRk.out
         have hlt2':(p:Int)<(q:Int)+1:=by omega
         have HRn:Hid _:=Fa.owns_set (k:=p * 7+6) (Fa.owns_set (k:=p * 7+5) (Fa.owns_set (k:=p * 7+4) (Fa.owns_set (k:=p * 7+3) (Fa.owns_set (k:=p * 7+2) (Fa.owns_set (k:=p * 7+1) (Fa.owns_set (k:=p * 7) HRk.out (.string ⟨#[115,112,111,105,108,116]⟩)) (.string ⟨#[]⟩)) (.int .i64 99)) (.int .i64 0)) (.int .i64 0)) (.int .i64 0)) (.int .i64 0)
         go_wp2_with fail
         go_roundw
         case rel=>exact ⟨p+1,by go_num,by omega,⟨_,HRn.out⟩,((((((HCk.out.trans (Chg.set _ _ _)).trans (Chg.set _ _ _)).trans (Chg.set _ _ _)).trans (Chg.set _ _ _)).trans (Chg.set _ _ _)).trans (Chg.set _ _ _)).trans (Chg.set _ _ _)⟩
         case measure=>simp [intOf];omega
       · obtain rfl:p=q+1:=by omega
         have hge2:¬ ((q:Int)+1<(q:Int)+1):=by omega
         obtain ⟨kc,hkg⟩:∃ cur,w13.heap[g8]? = some (.cells cur 27 (0,0)):=owns_kind HU13.out (k:=g8) rfl
         have HVq:Hid (wr.heap[vb]? = some (.cells #[.slice none 0 0] 29 (0,0))):=kept_chg HCk.out HV13.out (fun e=>by
          have h9:=hkg
          rw [← show vb=g8 from e,HV13.out] at h9
          simp at h9)
         have HBq:Hid (Below W.heap.size W wr):=HB13.out.trans (HCk.out.below HB13.out.size (fun k _ e=>by rw [show k=g8 from e];exact HGW.out))
         clear hkg
         go_wp2_with fail
         refine (knownT_any wr (HG.out.below HBq.out)).mono ?_
         rintro e w20 ⟨rfl,hb20⟩
         have HB20:Hid (Below W.heap.size W w20):=trans2 HBq.out hb20
         clear hb20
         go_wp2_with fail
         go_ret
         exact ⟨rfl,HB20.out⟩
end Go.Proofs.YtckmihplkhmpnaaGreatDoor
namespace Go.Proofs.YtckmihplkhmpnaaGreatDoor
open Go.RowKit Go.ChangeShapes Go.WideShapes Go.ChangeAt
set_option linter.unusedVariables false
set_option linter.unusedSimpArgs false
theorem list7' {α:Type} {l:List α} (h:l.length=7):∃ a b c d e f g,l=[a,b,c,d,e,f,g]:=by
 match l,h with
 | [a,b,c,d,e,f,g],_=>exact ⟨a,b,c,d,e,f,g,rfl⟩
theorem cellsFull:Tryz.prog.cellsOf 27=7:=by kernel_rfl
theorem bytesFull:Tryz.prog.bytesOf 27=72:=by kernel_rfl
theorem full_of {H:Type} {enc:TypeId × Value→H} {W:World} {n:Nat} {cs:List Value} {y:DataW H × List MemPlace} (h:DataW.trod enc Tryz.prog W 0 (fun _=>true) true n 27 cs=some y) (hz:∀ m∈y.1.weights Tryz.prog 27,m≤reachBytes):∃ x:Nd,cs=x.cs∧x.p.size≤140737488355328∧x.d.size≤140737488355328:=by
 obtain ⟨xs,m,_,hx,hl,hxl,hf⟩:=DataW.trod_struct Tryz.underlying27 h
 rw [cellsFull] at hl
 obtain ⟨c0,c1,c2,c3,c4,c5,c6,rfl⟩:=list7' hl
 obtain ⟨x0,x1,x2,x3,x4,x5,x6,rfl⟩:=list7' (l:=xs) hxl
 obtain ⟨z0,q0,e0,_⟩:=DataW.trod_string Tryz.underlying9 (hf 0 _ rfl)
 obtain ⟨z1,q1,e1,_⟩:=DataW.trod_string Tryz.underlying9 (hf 1 _ rfl)
 obtain ⟨z2,q2,_⟩:=DataW.trod_int Tryz.underlying3 (hf 2 _ rfl)
 obtain ⟨z3,q3,_⟩:=DataW.trod_int Tryz.underlying3 (hf 3 _ rfl)
 obtain ⟨z4,q4,_⟩:=DataW.trod_int Tryz.underlying3 (hf 4 _ rfl)
 obtain ⟨z5,q5,_⟩:=DataW.trod_int Tryz.underlying3 (hf 5 _ rfl)
 obtain ⟨z6,q6,_⟩:=DataW.trod_int Tryz.underlying3 (hf 6 _ rfl)
 simp [cells3',cells9'] at q0 q1 q2 q3 q4 q5 q6
 subst q0 q1 q2 q3 q4 q5 q6
 have s0:z0.size≤reachBytes:=hz z0.size (by
  rw [hx]
  simp only [DataW.weights,Tryz.underlying27]
  refine DataW.weights_mem_each (j:=0) rfl rfl _ ?_
  rw [e0]
  simp [DataW.weights])
 have s1:z1.size≤reachBytes:=hz z1.size (by
  rw [hx]
  simp only [DataW.weights,Tryz.underlying27]
  refine DataW.weights_mem_each (j:=1) rfl rfl _ ?_
  rw [e1]
  simp [DataW.weights])
 unfold reachBytes at s0 s1
 exact ⟨⟨z0,z1,z2,z3,z4,z5,z6⟩,rfl,by show z0.size≤_;omega,by show z1.size≤_;omega⟩
theorem nodes_of {H:Type} {enc:TypeId × Value→H} {W:World} {a:Option Addr} {len cap:Nat} {d:DataW H} {p:List MemPlace}
  (h:DataW.Trod enc Tryz.prog W 0 (fun _=>true) true 22 (.slice a len cap) d p) (hz:∀ m∈d.weights Tryz.prog 22,m≤reachBytes) :
  ∃ T:List Nd,len=T.length∧FusAt W a T∧(∀ x∈T,x.p.size≤140737488355328∧x.d.size≤140737488355328)∧T.length≤1954687338211:=by
 obtain ⟨fuel,hf⟩:=h
 rcases Go.Deep.open_slice Tryz.underlying22 hf with ⟨hcs,_⟩ | ⟨x,len',cap',m,n',D,Pl,hcs,_,hl,hm,hmm,hxx,hx⟩
 · simp [Value.cells] at hcs
   obtain ⟨rfl,rfl,rfl⟩:=hcs
   exact ⟨[],rfl,fun i o hi=>by simp at hi,fun x hx=>absurd hx (by simp),Nat.zero_le _⟩
 · simp [Value.cells] at hcs
   obtain ⟨rfl,rfl,rfl⟩:=hcs
   have hmc:m=cap:=by simpa using hmm
   subst hmc
   simp only [Prod.mk.injEq] at hxx
   have hw:len * 72≤reachBytes:=by
    refine Nat.le_trans ?_ (hz ((((List.range len).map D).length+((List.range (m - len)).map fun j=>D (len+j)).length) * Tryz.prog.bytesOf 27) (by rw [hxx.1];simp [DataW.weights,Tryz.underlying22]))
    rw [bytesFull]
    simp
    omega
   have each:∀ i,i<len→∃ s:Nd,(s.p.size≤140737488355328∧s.d.size≤140737488355328)∧∀ j x',s.cs[j]? = some x'→W.cell? ((x.add (i * 7)).add j)=some x':=by
    intro i hi
    obtain ⟨cs',h1,h2⟩:=hx i (by omega)
    obtain ⟨s,rfl,ho⟩:=full_of h2 (fun k hk=>hz k (by
     rw [hxx.1]
     simp only [DataW.weights,Tryz.underlying22,List.mem_cons,List.mem_append]
     exact .inr (.inl (weights_all (List.mem_map.2 ⟨i,List.mem_range.2 hi,rfl⟩) hk))))
    rw [cellsFull] at h1
    obtain ⟨_,_,hc⟩:=World.cells?_some h1
    exact ⟨s,ho,fun j x' hj=>by rw [hc j (by have:=(List.getElem?_eq_some_iff.1 hj).1;simpa [Nd.cs] using this)];exact hj⟩
   obtain ⟨l,hll,hls⟩:=list_of len each
   subst hll
   refine ⟨l,rfl,fun i s hi=>?_,fun s hs=>?_,?_⟩
   · have hi0:0<l.length:=by have:=(List.getElem?_eq_some_iff.1 hi).1;omega
     have hc0:=(hls 0 l[0] (List.getElem?_eq_getElem hi0)).2 0 _ rfl
     obtain ⟨b,f,rfl,hb⟩:∃ b f,x=⟨b,f,none⟩∧b<W.heap.size:=by
      obtain ⟨b,f,spot⟩:=x
      have hs:spot=none:=by simpa [Addr.add] using World.cell?_spot hc0
      subst hs
      exact ⟨b,f,rfl,by have:=World.block_lt_of_cell? _ _ hc0;simpa [Addr.add] using this⟩
     refine ⟨b,f,rfl,hb,fun j x' hj=>?_⟩
     have:=(hls i s hi).2 j x' hj
     rw [addr_add',addr_add'] at this
     exact this
   · obtain ⟨i,hi⟩:=List.mem_iff_getElem?.1 hs
     exact (hls i s hi).1
   · unfold reachBytes at hw
     omega
end Go.Proofs.YtckmihplkhmpnaaGreatDoor
