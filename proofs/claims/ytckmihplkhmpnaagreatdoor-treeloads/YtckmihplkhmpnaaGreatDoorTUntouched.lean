import Derived.Test.YtckmihplkhmpnaaGreatDoorTOps
import Derived.Test.YtckmihplkhmpnaaGreatDoorRefOrder
import Derived.Test.YtckmihplkhmpnaaGreatDoorTSortP
import Derived.Test.YtckmihplkhmpnaaGreatDoorTLook
import Derived.Sort.OwnSorted
import Derived.Sort.KeysCollected
import Derived.Test.YtckmihplkhmpnaaGreatDoorTNone2
import Derived.Test.YtckmihplkhmpnaaGreatDoorTDrop
import Derived.Deep.AppendLies
import Derived.Maps.OwnOps
import Derived.Test.YtckmihplkhmpnaaGreatDoorTPlay3
import Derived.Laws.BytesArg
import Derived.WalkMore
namespace Go.Proofs.YtckmihplkhmpnaaGreatDoor
open Go.RowKit Go.Maps Go.Sort Go.Shelf
set_option linter.unusedVariables false
abbrev seqV (B:Nat):Value:=.func (.func 68) #[] #[.pointer (some ⟨B,0,none⟩)]
theorem keys_any (mb:Option Nat) (w:World) :
  Calls Tryz.prog 45 #[.map mb] w fun e w'=>e=.returned (seqV w.heap.size)∧w'=w.alloc (.cells #[.map mb] 52) :=
 (callsIn_wide (n:=5)).1 (AnyZ.keys_in Tryz.keysM Fence.wide 5 trivial rfl mb w)
theorem appSeq_any (B b n:Nat) (D:DataW Value) (w:World) (hB:B<w.heap.size) (hc:w.cell? ⟨B,0,none⟩=some (.map (some b))) (hm:MapAt w b n D) (hn:Maps.size D≤1000000) :
  Calls Tryz.prog 91 #[.slice none 0 0,seqV B] w fun e w'=>∃ (v:Value) (ss:List (List UInt8)),e=.returned v∧ss.Perm (strKeys D)∧w'.ownsRow w.heap.size 9 1 v ss.length (ss.map encStr)∧(v=.slice none 0 0 ↔ ss=[])∧Below w.heap.size w w' :=
 (callsIn_wide (n:=5)).1 (AnyZ.appendSeq_in Tryz.appSeq Fence.wide 5 trivial rfl (by omega) 68 #[.pointer (some ⟨B,0,none⟩)] trivial (enters_of Tryz.func68 (by kernel_rfl) rfl) (fun ss=>ss.Perm (strKeys D)) (Maps.size D) (by unfold maxLen;omega) (by omega) w
   (AnyZ.keys_gives (ρ:=Tryz.keysI_ren) Tryz.keysI Fence.wide 4 trivial rfl (by omega) B b n D w hB hc hm))
set_option maxHeartbeats 1000000 in
theorem collect_any (B b n:Nat) (D:DataW Value) (w:World) (hB:B<w.heap.size) (hc:w.cell? ⟨B,0,none⟩=some (.map (some b))) (hm:MapAt w b n D) (hn:Maps.size D≤1000000) :
  Calls Tryz.prog 66 #[seqV B] w fun e w'=>∃ (v:Value) (ss:List (List UInt8)),e=.returned v∧ss.Perm (strKeys D)∧w'.ownsRow w.heap.size 9 1 v ss.length (ss.map encStr)∧(v=.slice none 0 0 ↔ ss=[])∧Below w.heap.size w w':=by
 have HA:Hid _:=appSeq_any B b n D w hB hc hm hn
 clear hB hc hm hn
 go_enter Tryz.func66,Tryz.ntmps66
 go_wp2_with (first | (go_at_call 91;refine Calls.mono HA.out ?_;rintro e w1 ⟨v,ss,rfl,hp,hr,hnil,hb⟩) | fail)
 go_ret
 exact ⟨v,ss,rfl,hp,hr,hnil,hb⟩
def Asc (ts:List (List UInt8)):Prop:=ts.Pairwise (fun x y=>ordL x y≠1)
set_option maxHeartbeats 1000000 in
theorem sorted_any (B b n:Nat) (D:DataW Value) (w:World) (hB:B<w.heap.size) (hc:w.cell? ⟨B,0,none⟩=some (.map (some b))) (hm:MapAt w b n D) (hn:Maps.size D≤1000000) (hk:∀ l∈strKeys D,l.length≤1000) (hne:strKeys D≠[]) (hkl:(strKeys D).length≤1000000) :
  Calls Tryz.prog 44 #[seqV B,.func (.func 14) #[] #[]] w fun e w'=>∃ (g cap:Nat) (ts:List (List UInt8)),e=.returned (.slice (some ⟨g,0,none⟩) ts.length cap)∧ts.Perm (strKeys D)∧Asc ts∧w'.ownsRow w.heap.size 9 1 (.slice (some ⟨g,0,none⟩) ts.length cap) ts.length (ts.map encStr)∧Below w.heap.size w w':=by
 have HA:Hid _:=collect_any B b n D w hB hc hm hn
 have HK:Hid _:=hk
 have HNE:Hid _:=hne
 have HN:Hid ((strKeys D).length≤1000000):=hkl
 clear hB hc hm hn hk hne hkl
 go_enter Tryz.func44,Tryz.ntmps44
 go_wp2_with fail
 refine Calls.mono HA.out ?_
 rintro e w1 ⟨v,ss,rfl,hp,hr,hnil,hb⟩
 have hss:∀ l∈ss,l.length≤1000:=fun l hl=>HK.out l (hp.mem_iff.1 hl)
 have hlen:ss.length≤1000000:=by rw [hp.length_eq];exact HN.out
 rcases hr.2 with ⟨hv,_⟩ | ⟨g,cap,cur,hv,hbase,hb',h1,h2,h3,h4⟩
 · have:=hnil.1 hv
   subst this
   exact absurd (List.perm_nil.1 hp.symm) HNE.out
 subst hv
 have hH:Holds encC w1 g 0 ss.toArray:=fun j hj=>by
  have h:=holds_of_block hb' (by simpa using h4) j hj
  have hj':j<ss.length:=by simpa using hj
  have e:ss.toArray[j]! = ss[j]:=by simp [hj']
  refine ⟨?_,h.2⟩
  rw [h.1,e]
  show some (encStr ss[j])=some (encStr (cl ss[j]))
  rw [cl_id (hss _ (List.getElem_mem hj'))]
 have hcon:=Any.slices_SortFunc Tryz.sortF encC (fun _=>rfl) cfC swoC 14 #[] g 0 cap ss.toArray w1 (enters_of Tryz.func14 (by kernel_rfl) rfl) (cmpC g 0 ss.toArray.size w1).lays hH (Array.getElem?_eq_some_iff.1 hb').1 (by simp;omega)
 have HCON:Hid (Calls Tryz.prog 67 #[.slice (some ⟨g,0,none⟩) ss.length cap,.func (.func 14) #[] #[]] w1 fun e w'=>e=.returned (.tuple #[])∧∃ d' n os,PermIn 0 ss.toArray.size ss.toArray d'∧SortedIn (ltOf cfC) 0 ss.toArray.size d'∧w'=sortWorld encC w1 g 0 n d' os):=hcon
 have HR:Hid (Go.RowKit.Below w.heap.size w w1):=hb
 have HS:Hid _:=hss
 have HP:Hid _:=hp
 have HX:Hid (w.heap.size≤g∧w1.heap[g]? = some (.cells cur 9 (0,0))∧ss.length≤cap∧cap≤maxLen∧cur.size=cap * 1):=⟨hbase,hb',h1,h2,h3⟩
 clear hcon hH hr hnil hb hss hp hbase hb' h1 h2 h3 h4 hlen
 go_wp2_with (first | (go_at_call 67;refine Calls.mono HCON.out ?_;rintro e w2 ⟨rfl,d',nn,os,hpm,hso,rfl⟩) | fail)
 obtain ⟨ts,rfl⟩:∃ ts:List (List UInt8),d'=ts.toArray:=⟨d'.toList,by simp⟩
 have hl:ts.length=ss.length:=by simpa using hpm.1
 have hpp:ts.Perm ss:=by
  have:=hpm.2.2
  simpa [hl,List.take_of_length_le] using this
 have hts:∀ l∈ts,l.length≤1000:=fun l h=>HS.out l (hpp.mem_iff.1 h)
 rw [putC hts]
 go_ret
 refine ⟨g,cap,ts,(by rw [hl] <;> rfl),hpp.trans HP.out,?_,?_,HR.out.grown (grownBy_sorted _) HR.out.size (fun j hj=>by cases hj;exact HX.out.1)⟩
 · unfold Asc
   rw [List.pairwise_iff_getElem]
   intro i j hi hj hij e
   have hs:=hso i j (Nat.zero_le _) hij (by simp;omega)
   have e1:ts.toArray[j]! = ts[j]:=by simp [hj]
   have e2:ts.toArray[i]! = ts[i]:=by simp [hi]
   rw [e1,e2] at hs
   have:ltOf cfC ts[j] ts[i]=true:=by
    rw [lt_iff,cl_id (hts _ (List.getElem_mem hj)),cl_id (hts _ (List.getElem_mem hi)),ordL_anti,e]
   rw [this] at hs
   cases hs
 · have:=ownsRow_sorted (n:=nn) (os:=os) hl HX.out.1 HX.out.2.1 HX.out.2.2.1 HX.out.2.2.2.1 HX.out.2.2.2.2
   rw [hl]
   exact this
set_option maxHeartbeats 1000000 in
theorem places_any (b n:Nat) (D:DataW Value) (w:World) (hm:MapAt w b n D) (hn:Maps.size D≤1000000) (hk:∀ l∈strKeys D,l.length≤1000) (hne:strKeys D≠[]) :
  Calls Tryz.prog 20 #[.map (some b)] w fun e w'=>∃ (g cap:Nat) (ts:List (List UInt8)),e=.returned (.slice (some ⟨g,0,none⟩) ts.length cap)∧ts.Perm (strKeys D)∧Asc ts∧w'.ownsRow w.heap.size 9 1 (.slice (some ⟨g,0,none⟩) ts.length cap) ts.length (ts.map encStr)∧Go.RowKit.Below w.heap.size w w':=by
 have HS:Hid _:=sorted_any w.heap.size b n D (w.alloc (.cells #[.map (some b)] 52)) (by simp) (by simp) (map_below hm ((Go.RowKit.Below.refl _ _).alloc (Nat.le_refl _) _)) hn hk hne (by rw [size_of];exact hn)
 clear hm hn hk hne
 go_enter Tryz.func20,Tryz.ntmps20
 go_wp2_with (first
  | (go_at_call 45;refine (keys_any _ _).mono ?_;rintro e w1 ⟨rfl,rfl⟩)
  | (go_at_call 44;refine Calls.mono HS.out ?_;rintro e w2 ⟨g,cap,ts,rfl,h1,h2,h3,h4⟩)
  | fail)
 go_ret
 exact ⟨g,cap,ts,rfl,h1,h2,⟨h3.1,h3.2.imp id (fun ⟨g',c',cur,a,b,c⟩=>⟨g',c',cur,a,by simp at b;omega,c⟩)⟩,trans2 ((Go.RowKit.Below.refl _ _).alloc (Nat.le_refl _) _) h4⟩
end Go.Proofs.YtckmihplkhmpnaaGreatDoor
namespace Go.Proofs.YtckmihplkhmpnaaGreatDoor
open Go.RowKit Go.Maps Go.Sort
set_option linter.unusedVariables false
theorem Tryz.infoF:(Tryz.prog.info? 27).map (fun i=>(i.zero,i.size,i.bytes))=some (some zf,7,72):=by kernel_rfl
def nodeCs (D:DataW Value) (ts:List (List UInt8)):List Value:=(ts.map fun l=>cellsOf (look D ⟨l.toArray⟩)).flatten
theorem nodeCs_snoc (D:DataW Value) (ts:List (List UInt8)) (l:List UInt8) {p d:ByteArray} {v m c o k:Int} (h:look D ⟨l.toArray⟩=fuV p d v m c o k):nodeCs D (ts ++ [l])=nodeCs D ts ++ [.string p,.string d,.int .i64 v,.int .i64 m,.int .i64 c,.int .i64 o,.int .i64 k]:=by
 simp [nodeCs,h,cellsOf]
set_option maxHeartbeats 16000000 in
set_option maxRecDepth 100000 in
theorem nodes_any (base tb mb n:Nat) (D:DataW Value) (w:World) (hT:TreeAt w base tb mb n D) (hn:Maps.size D≤1000) (hwf:WF D) (hne:strKeys D≠[]) :
  Calls Tryz.prog 10 #[.pointer (some ⟨tb,0,none⟩)] w fun e w'=>∃ (g cap:Nat) (ts:List (List UInt8)),e=.returned (.slice (some ⟨g,0,none⟩) ts.length cap)∧ts.Perm (strKeys D)∧Asc ts∧w'.ownsRow w.heap.size 27 7 (.slice (some ⟨g,0,none⟩) ts.length cap) ts.length (nodeCs D ts)∧Below w.heap.size w w':=by
 obtain ⟨i0,hi0,hz0,hz1,hz2⟩:=info_parts Tryz.infoF
 have HT:Hid _:=hT
 have HW:Hid _:=hwf
 have HNO:Hid _:=isNone_at tb (some mb) w (cells_1 hT.box)
 have HPL:Hid _:=places_any mb n D w hT.map (by omega) (fun l hl=>(hwf l hl).1) hne
 have HSZ:Hid ((strKeys D).length≤1000):=by rw [size_of];exact hn
 have HNE:Hid _:=hne
 have hbx:=cells_1 hT.box
 have htl:tb<w.heap.size:=(Array.getElem?_eq_some_iff.1 hT.box).1
 clear hT hwf hn hne
 go_enter Tryz.func10,Tryz.ntmps10
 go_wp2_with (first
  | (go_at_call 19;refine Calls.mono HNO.out ?_;rintro e w0 ⟨rfl,rfl⟩)
  | (go_at_call 20;refine Calls.mono HPL.out ?_;rintro e w1 ⟨g,cap,ts,rfl,hp,has,hr,hb⟩
     have HP:Hid _:=hp
     have HA:Hid _:=has
     have HR:Hid (w1.ownsRow w0.heap.size 9 1 (.slice (some ⟨g,0,none⟩) ts.length cap) ts.length (ts.map encStr)):=hr
     have HB:Hid (Below w0.heap.size w0 w1):=hb
     clear hp has hr hb hbx)
  | fail)
 have htl1:tb<w1.heap.size:=Nat.lt_of_lt_of_le htl HB.out.size
 have HT1:Hid _:=HT.out.below HB.out
 have hlen:ts.length≤1000:=by rw [HP.out.length_eq];exact HSZ.out
 have hgl:g<w1.heap.size:=(HR.out.lt g rfl).2
 go_loopw [3,14] (fun a i wr=>∃ q:Nat,i=.int .i64 q∧q≤ts.length∧Hid (wr.ownsRow w1.heap.size 27 7 a q (nodeCs D (ts.take q))∧(a=.slice none 0 0 ↔ q=0))∧Hid (Below w1.heap.size w1 wr)) (fun _ i _=>ts.length - (intOf i).toNat)
 case atStart=>exact ⟨0,rfl,Nat.zero_le _,⟨World.ownsRow_nil _ _ _ _,by simp⟩,Below.refl _ _⟩
 case round =>
  obtain ⟨q,rfl,hq,HO,HBk⟩:=hrel
  by_cases hlt:q<ts.length
  · obtain ⟨l,hl⟩:∃ l,ts[q]? = some l:=⟨ts[q],List.getElem?_eq_getElem hlt⟩
    obtain ⟨hll,p,d,v,m,c,o,k,hlk,hps,hds⟩:=HW.out l (HP.out.mem_iff.1 (List.mem_of_getElem? hl))
    have hcq:wr.cell? ⟨g,q,none⟩=some (.string ⟨l.toArray⟩):=by
     rw [HBk.out.cell (p:=⟨g,q,none⟩) hgl,HR.out.cellAt q (by omega),List.getElem?_map,hl]
     rfl
    have hcb:wr.cell? ⟨tb,0,none⟩=some (.map (some mb)):=cells_1 (HT1.out.below HBk.out).box
    have HMk:Hid _:=(HT1.out.below HBk.out).map
    have hkey:keyOf Tryz.prog 9 (.string ⟨l.toArray⟩)=some (ky ⟨l.toArray⟩):=WideMaps.keyOf_string_mk Tryz.underlying9 (by show l.toArray.size≤maxLen;unfold maxLen;simp;omega)
    have HLK:Hid _:=hlk
    have HCP:Hid _:=copied_any p d v m c o k (by omega) (by omega)
    have htk:ts.take (q+1)=ts.take q ++ [l]:=by rw [List.take_add_one,hl];rfl
    have HTK:Hid (nodeCs D (ts.take (q+1))=nodeCs D (ts.take q) ++ [.string p,.string d,.int .i64 v,.int .i64 m,.int .i64 c,.int .i64 o,.int .i64 k]):=by rw [htk];exact nodeCs_snoc D _ l hlk
    have hlt':(q:Int)<(ts.length:Int):=by omega
    clear hl hlk htk hll
    go_wp2_with (first
     | (at_lookup;refine wpList_lookup_raw _ rfl _ _ 52 rfl 9 27 keyed Tryz.underlying52 (zeroF _) mb n D rfl HMk.out _ _ rfl hkey ?_;intro u ps hu;obtain rfl:=look_of hu;rw [HLK.out];clear hu)
     | (go_at_call 21;refine (HCP.out _).mono ?_;rintro e w3 ⟨rfl,hb3⟩
        have HB3:Hid (Below w1.heap.size w1 w3):=trans2 HBk.out hb3
        have HO3:Hid (w3.ownsRow w1.heap.size 27 7 u3 q (nodeCs D (ts.take q))):=owns_chg HO.out.1 (Chg.of_below hb3 (fun _=>False)) (fun _ _=>id)
        have hs3:=HB3.out.size
        clear hb3)
     | (at_builtin;refine wpList_append_lies _ rfl _ _ _ rfl w1.heap.size 27 i0 _ 7 72 Tryz.underlying22 hi0 hz0 hz1 hz2 rfl (by omega) u3 q (nodeCs D (ts.take q)) rfl (World.ownsRow.alloc HO3.out _) ⟨w3.heap.size,0,none⟩ 1 1 [.string p,.string d,.int .i64 v,.int .i64 m,.int .i64 c,.int .i64 o,.int .i64 k] rfl rfl (World.news_of_block (cs:=#[.string p,.string d,.int .i64 v,.int .i64 m,.int .i64 c,.int .i64 o,.int .i64 k]) (t:=27) (fr:=(0,0)) (heap_alloc_new w3 _)) (by simp [Value.oneCell']) (by omega) (by unfold maxLen;omega) (by omega) (by simp;omega) (w3.heap.size+1) (by simp) ?_
        intro g4 cap4 w4 hown4 hgrow4 hat4 hlt4
        have HN4:Hid (w4.ownsRow w1.heap.size 27 7 (.slice (some ⟨g4,0,none⟩) (q+1) cap4) (q+1) (nodeCs D (ts.take (q+1)))):=by rw [HTK.out];exact hown4
        have HB4:Hid (Below w1.heap.size w1 w4):=HB3.out.trans (((Below.refl _ _).alloc (by omega) _).grown hgrow4 (by simp;omega) (fun j hj=>(HO3.out.lt j hj).1))
        clear hown4 hgrow4 hat4 hlt4)
     | fail)
    go_roundw
    case rel=>exact ⟨q+1,by go_num,by omega,⟨HN4.out,by simp⟩,HB4.out⟩
    case measure=>simp [intOf];omega
  · obtain rfl:q=ts.length:=by omega
    go_wp2
    go_ret
    have hq0:ts.length≠0:=fun e=>HNE.out (by have:=HP.out.length_eq;rw [e] at this;exact List.eq_nil_of_length_eq_zero this.symm)
    have hO:=HO.out.1
    rw [List.take_of_length_le (Nat.le_refl _)] at hO
    rcases hO.2 with ⟨hv,h0⟩ | ⟨g5,cap5,cur5,hv,hbs,r5⟩
    · exact absurd h0 hq0
    subst hv
    exact ⟨g5,cap5,ts,rfl,HP.out,HA.out,⟨hO.1,.inr ⟨g5,cap5,cur5,rfl,Nat.le_trans HB.out.size hbs,r5⟩⟩,trans2 HB.out HBk.out⟩
end Go.Proofs.YtckmihplkhmpnaaGreatDoor
namespace Go.Proofs.YtckmihplkhmpnaaGreatDoor
open Go.RowKit Go.Maps
set_option linter.unusedVariables false
set_option linter.unusedSimpArgs false
abbrev pA:ByteArray:=⟨#[47,97]⟩
abbrev pR:ByteArray:=⟨#[47]⟩
abbrev dX:ByteArray:=⟨#[120]⟩
abbrev knownD:DataW Value:=.map [(ky pR,.held (fuV pR ⟨#[]⟩ 0 0 0 0 0)),(ky pA,.held (fuV pA dX 0 1 1 0 0))]
theorem par_a:parB pA=pR:=by kernel_rfl
theorem look_r:look rootD pR=fuV pR ⟨#[]⟩ 0 0 0 0 0:=by kernel_rfl
theorem look_a:look rootD pA=zf:=by kernel_rfl
theorem has_r:Maps.has rootD (ky pR)=true:=by kernel_rfl
theorem has_a:Maps.has rootD (ky pA)=false:=by kernel_rfl
theorem mal_a:malC 5 1 pA dX 0=0:=by kernel_rfl
theorem put_d:(rootD.put (ky pR) (.held (fuV pR ⟨#[]⟩ 0 0 0 0 0))).put (ky pA) (.held (fuV pA dX 0 1 1 0 0))=knownD:=by kernel_rfl
theorem keys_d:strKeys knownD=[[47],[47,97]]:=by kernel_rfl
theorem mal_b {z:ByteArray} (hz:z.size=65):malC 0 2 ⟨#[47,98]⟩ z 0=45:=by
 have h1:(parse ⟨#[47,98]⟩).1=0:=by kernel_rfl
 simp [malC,h1,hz]
theorem wf_d:WF knownD:=by
 intro l hl
 rw [keys_d] at hl
 simp at hl
 rcases hl with rfl | rfl
 · exact ⟨by decide,pR,⟨#[]⟩,0,0,0,0,0,by kernel_rfl,by decide,by decide⟩
 · exact ⟨by decide,pA,dX,0,1,1,0,0,by kernel_rfl,by decide,by decide⟩
theorem asc_d {ts:List (List UInt8)} (h:ts.Perm (strKeys knownD)) (ha:Asc ts):ts=[[47],[47,97]]:=by
 rw [keys_d] at h
 have hl:=h.length_eq
 match ts,hl with
 | [a,b],_ =>
   have hp:=h
   have hm:=h.mem_iff (a:=a)
   have hm2:=h.mem_iff (a:=b)
   simp at hm hm2
   have hn:([a,b]:List (List UInt8)).Nodup:=h.nodup_iff.2 (by decide)
   simp at hn
   unfold Asc at ha
   simp at ha
   rcases hm with rfl | rfl
   · rcases hm2 with rfl | rfl
     · exact absurd rfl hn
     · rfl
   · rcases hm2 with rfl | rfl
     · exact absurd (by decide) ha
     · exact absurd rfl hn
theorem form_n {w:World} {B e s n:Nat} {v:Value} {xs:List Value} (h:w.ownsRow B e s v n xs) (hn:0<n):∃ g cap,v=.slice (some ⟨g,0,none⟩) n cap:=by
 rcases h.2 with ⟨_,h0⟩ | ⟨g,cap,_,hv,_⟩
 · omega
 · exact ⟨g,cap,hv⟩
theorem cell_n {w:World} {B e s n g cap k:Nat} {xs:List Value} {x:Value} (h:w.ownsRow B e s (.slice (some ⟨g,0,none⟩) n cap) n xs) (hx:xs[k]? = some x):w.cell? ⟨g,k,none⟩=some x:=by
 have hk:k<xs.length:=(List.getElem?_eq_some_iff.1 hx).1
 rcases h.2 with ⟨h0,_⟩ | ⟨g',cap',cur,hv,_,hg,_,_,hsz,ht⟩
 · cases h0
 · cases hv
   have hkc:k<n * s:=by have:=h.1;omega
   have:cur[k]? = some x:=by
    rw [← hx,← ht,List.getElem?_take_of_lt hkc,Array.getElem?_toList]
   unfold World.cell?
   simp only [hg]
   exact this
set_option maxHeartbeats 16000000 in
set_option maxRecDepth 100000 in
theorem knownT_any (w:World) (hg:GroundT w) :
  Calls Tryz.prog 9 #[] w fun e w'=>e=.returned (.bool true)∧Below w.heap.size w w':=by
 have HG:Hid _:=hg
 obtain ⟨i1,hi,hz0,hz1,hz2⟩:=info_parts Tryz.info5
 obtain ⟨n,hn⟩:∃ n:Nat,n=65:=⟨_,rfl⟩
 have HN:Hid _:=hn
 have hL:(65:Int)=(n:Int):=by rw [hn];rfl
 have HL:Hid ((65:Int)=(n:Int)):=hL
 clear hg hn hL
 go_enter Tryz.func9,Tryz.ntmps9
 go_wp2_with fail
 refine (new_any w).mono ?_
 rintro e w1 ⟨tb,mb,rfl,hT1,hb1⟩
 have HT1:Hid _:=hT1
 have HB1:Hid (Below w.heap.size w w1):=hb1
 have HBa:Hid (Below w1.heap.size w1 (w1.alloc (.cells #[.int .i64 1,.string pA,.string dX,.int .i64 0,.int .i64 0] 66))):=(Below.refl _ _).alloc (Nat.le_refl _) _
 have HPL:Hid _:=play1_make w.heap.size tb mb 1 w1.heap.size rootD 5 1 pA dX 0 pR ⟨#[]⟩ 0 0 0 0 ⟨#[]⟩ ⟨#[]⟩ 0 0 0 0 0 (w1.alloc (.cells #[.int .i64 1,.string pA,.string dX,.int .i64 0,.int .i64 0] 66)) (HG.out.below (trans2 hb1 HBa.out)) (hT1.below HBa.out) (heap_alloc_new _ _) mal_a (by rw [par_a];exact look_r) (by rw [par_a];exact has_r) look_a has_a (by decide) (by decide) (by decide) (by decide) (by decide) (by rw [par_a];decide) (by decide) (by decide) (by decide) (by decide) (by decide)
 clear hT1 hb1
 go_wp2_with fail
 refine Calls.mono HPL.out ?_
 rintro e w2 ⟨g,cap,chV,mb2,rfl,hmb2,hT2,hrow2,hC2⟩
 rw [put_d] at hT2
 obtain ⟨gc,capc,rfl⟩:=form_n hrow2 (by decide)
 have HT2:Hid (TreeAt w2 w.heap.size tb mb2 (1+1+1) knownD):=hT2
 have HRW2:Hid _:=hrow2
 have HB2:Hid (Below w.heap.size w w2):=(trans2 HB1.out HBa.out).trans (hC2.below (by have:=HB1.out.size;simp;omega) (fun k _ e=>by rw [e];exact HT1.out.lo))
 have hs2:=HB2.out.size
 clear hT2 hrow2 hC2 hmb2
 go_wp2_with (first
  | (at_make;refine wpList_make_full _ rfl _ _ 67 rfl w2.heap.size 5 i1 (.int .u8 0) 1 Tryz.underlying67 hi hz0 hz1 .i64 .i64 65 65 n rfl rfl HL.out HL.out (by rw [hz2,HN.out];decide) (by rw [HN.out];decide) (by simp) ?_;intro w3 hown3 hgrow3;rw [World.size_alloc] at hown3;obtain ⟨z,hz,hconv⟩:=conv_zeros hown3;have HZ:Hid _:=hz;have HGr3:Hid _:=hgrow3;clear hown3 hgrow3 hz)
  | fail)
 have HBb:Hid (Below w2.heap.size w2 w3):=((Chg.alloc w2 _ (fun _=>False)).trans ((Chg.grown HGr3.out).mono (fun _ _ e=>by cases e))).below (Nat.le_refl _) (fun _ _ h=>h.elim)
 have hs3:=HBb.out.size
 have HRB3:Hid (w3.heap[w2.heap.size]? = some (.cells #[.int .i64 1,.int .i64 0,.int .i64 0,.slice (some ⟨g,0,none⟩) 1 cap] 61 (0,0))):=by
  show _=_
  rw [HGr3.out.block w2.heap.size (by simp) (fun e=>by cases e)];exact heap_alloc_new _ _
 have HBc:Hid (Below w3.heap.size w3 (w3.alloc (.cells #[.int .i64 2,.string ⟨#[47,98]⟩,.string z,.int .i64 (-1),.int .i64 0] 66))):=(Below.refl _ _).alloc (Nat.le_refl _) _
 have HPM:Hid _:=play1_mal (k:=2) (by decide) (by decide) w.heap.size tb mb2 (1+1+1) w3.heap.size knownD 0 2 ⟨#[47,98]⟩ z (-1) 0 (fun h=>by omega) (w3.alloc (.cells #[.int .i64 2,.string ⟨#[47,98]⟩,.string z,.int .i64 (-1),.int .i64 0] 66)) (HG.out.below (trans2 (trans2 HB2.out HBb.out) HBc.out)) ((HT2.out.below HBb.out).below HBc.out) (heap_alloc_new _ _) 45 (mal_b (by rw [HZ.out,HN.out])) (by decide) (by decide) (by decide) (by decide) (by decide)
 clear hconv
 refine Calls.mono HPM.out ?_
 rintro e w4 ⟨rfl,hb4⟩
 have HB34:Hid (Below w3.heap.size w3 w4):=trans2 HBc.out hb4
 have HB4:Hid (Below w.heap.size w w4):=trans2 (trans2 HB2.out HBb.out) HB34.out
 have HT4:Hid _:=(HT2.out.below HBb.out).below HB34.out
 have HRB4:Hid _:=kept_block HB34.out HRB3.out
 have HRW4:Hid _:=owns_chg (owns_chg HRW2.out (Chg.of_below HBb.out (fun _=>False)) (fun _ _=>id)) (Chg.of_below HB34.out (fun _=>False)) (fun _ _=>id)
 clear hb4
 have HND:Hid _:=nodes_any w.heap.size tb mb2 (1+1+1) knownD (w4.alloc (.cells #[.int .i64 2,.int .i64 45,.int .i64 0,.slice none 0 0] 61)) (HT4.out.below ((Below.refl _ _).alloc (Nat.le_refl _) _)) (by decide) wf_d (by rw [keys_d];decide)
 go_wp2_with (first
  | (go_at_call 6;go_in)
  | (go_at_call 10;refine Calls.mono HND.out ?_;rintro e w5 ⟨g5,cap5,ts,rfl,hp5,ha5,hr5,hb5⟩;obtain rfl:=asc_d hp5 ha5
     have HB5:Hid (Below w4.heap.size w4 w5):=trans2 ((Below.refl _ _).alloc (Nat.le_refl _) _) hb5
     have HR5:Hid _:=hr5
     have HRB5:Hid _:=kept_block HB5.out HRB4.out
     have HRW5:Hid _:=owns_chg HRW4.out (Chg.of_below HB5.out (fun _=>False)) (fun _ _=>id)
     obtain ⟨b0,b1,b2,b3⟩:=cells_4 HRB5.out
     have hc1:w5.cell? ⟨gc,1,none⟩=some (.string pA):=cell_n HRW5.out rfl
     have hc8:w5.cell? ⟨g5,8,none⟩=some (.string dX):=cell_n HR5.out (by kernel_rfl)
     clear hp5 ha5 hr5 hb5)
  | fail)
 go_ret
 exact ⟨rfl,trans2 HB4.out HB5.out⟩
end Go.Proofs.YtckmihplkhmpnaaGreatDoor
namespace Go.Proofs.YtckmihplkhmpnaaGreatDoor
open Go.RowKit Go.Maps
set_option linter.unusedVariables false
set_option linter.unusedSimpArgs false
theorem Tryz.infoO:(Tryz.prog.info? 66).map (fun i=>(i.zero,i.size,i.bytes))=some (some (.agg #[.int .i64 0,.string ⟨#[]⟩,.string ⟨#[]⟩,.int .i64 0,.int .i64 0]),5,56):=by kernel_rfl
structure OpT where
 k:Int
 p:ByteArray
 d:ByteArray
 v:Int
 f:Int
abbrev OpT.cells (o:OpT):List Value:=[.int .i64 o.k,.string o.p,.string o.d,.int .i64 o.v,.int .i64 o.f]
def opCs (os:List OpT):List Value:=(os.map OpT.cells).flatten
def OpsAt (w:World) (base:Nat) (a:Option Addr) (os:List OpT):Prop :=
 ∀ i o,os[i]? = some o→∃ b f,a=some ⟨b,f,none⟩∧b<base∧∀ j x,o.cells[j]? = some x→w.cell? ⟨b,f+i * 5+j,none⟩=some x
def DeskAt (w:World) (base db:Nat) (dv:Value):Prop:=w.heap[db]? = some (.cells #[dv] 44 (0,0))∧base≤db∧∃ n xs,w.ownsRow base 66 5 dv n xs
theorem desk_grown {wr w4:World} {o:Obj} {base db q:Nat} {u:Value} {xs:List Value} (h:∃ dv,wr.heap[db]? = some (.cells #[dv] 44 (0,0))) (hr:wr.ownsRow base 66 5 u q xs) (hg:(wr.alloc o).grownBy w4 u.ownBlock):∃ dv,w4.heap[db]? = some (.cells #[dv] 44 (0,0)):=by
 obtain ⟨dv,h⟩:=h
 have hl:db<wr.heap.size:=(Array.getElem?_eq_some_iff.1 h).1
 refine ⟨dv,?_⟩
 rw [hg.block db (by simp;omega) (fun e=>?_)]
 · exact heap_alloc_old h
 · obtain ⟨cur,hc⟩:=owns_kind hr e.symm
   rw [h] at hc
   cases hc
theorem chg_app {w wr w4:World} {u dv:Value} {db:Nat} {o:Obj} (hC:Chg w wr (fun k=>k=db∨dv.ownBlock=some k)) (hu:∀ k,u.ownBlock=some k→dv.ownBlock=some k∨w.heap.size≤k) (hg:(wr.alloc o).grownBy w4 u.ownBlock):Chg w w4 (fun k=>k=db∨dv.ownBlock=some k):=by
 have h1:Chg wr w4 (fun k=>u.ownBlock=some k):=(Chg.alloc wr o _).trans (Chg.grown hg)
 refine ⟨h1.os.trans hC.os,h1.tape.trans hC.tape,h1.output.trans hC.output,Nat.le_trans hC.size h1.size,fun k hk hn=>?_⟩
 rw [h1.block k (Nat.lt_of_lt_of_le hk hC.size) (fun e=>?_),hC.block k hk hn]
 rcases hu k e with h | h
 · exact hn (.inr h)
 · omega
theorem own_app {w wr:World} {u dv:Value} {g H n c:Nat} (hu:∀ k,u.ownBlock=some k→dv.ownBlock=some k∨w.heap.size≤k) (hat:u.ownBlock=some g∨g=H) (hH:w.heap.size≤H):∀ k,(Value.slice (some ⟨g,0,none⟩) n c).ownBlock=some k→dv.ownBlock=some k∨w.heap.size≤k:=by
 intro k hk
 simp only [Value.ownBlock,Option.some.injEq] at hk
 subst hk
 rcases hat with h | h
 · exact hu _ h
 · exact .inr (by omega)
theorem desk_end {w w4:World} {base db g n cap:Nat} {dv:Value} {xs:List Value} (hbs:base≤w.heap.size) (hdl:base≤db) (hd:w4.heap[db]? = some (.cells #[dv] 44 (0,0))) (hr:w4.ownsRow base 66 5 (.slice (some ⟨g,0,none⟩) n cap) n xs) (hb:Below base w w4) :
  DeskAt (w4.setCell ⟨db,0,none⟩ (.slice (some ⟨g,0,none⟩) n cap)) base db (.slice (some ⟨g,0,none⟩) n cap)∧(w4.setCell ⟨db,0,none⟩ (.slice (some ⟨g,0,none⟩) n cap)).ownsRow base 66 5 (.slice (some ⟨g,0,none⟩) n cap) n xs∧Below base w (w4.setCell ⟨db,0,none⟩ (.slice (some ⟨g,0,none⟩) n cap)):=by
 have hC:=Chg.set w4 ⟨db,0,none⟩ (.slice (some ⟨g,0,none⟩) n cap)
 have hR:=owns_chg hr hC (fun k hk e=>by
  obtain ⟨cur,hc⟩:=owns_kind hr hk
  rw [show k=db from e,hd] at hc
  cases hc)
 have hlt:db<w4.heap.size:=(Array.getElem?_eq_some_iff.1 hd).1
 refine ⟨⟨?_,hdl,n,xs,hR⟩,hR,hb.trans (hC.below (Nat.le_trans hbs hb.size) (fun k _ e=>by rw [show k=db from e];exact hdl))⟩
 exact same_blk hd rfl
set_option maxHeartbeats 3200000 in
set_option maxRecDepth 100000 in
theorem twin_any (base db:Nat) (dv:Value) (w:World) (os:List OpT) (a:Option Addr) (c:Nat) (hb:base≤w.heap.size) (hd:DeskAt w base db dv) (ho:OpsAt w base a os) (hl:os.length≤2513169434846) :
  Calls Tryz.prog 23 #[.pointer (some ⟨db,0,none⟩),.slice a os.length c] w fun e w'=>∃ g cap,e=.returned (.slice (some ⟨g,0,none⟩) (os.length+2) cap)∧DeskAt w' base db (.slice (some ⟨g,0,none⟩) (os.length+2) cap)∧w'.ownsRow base 66 5 (.slice (some ⟨g,0,none⟩) (os.length+2) cap) (os.length+2) (opCs os ++ [.int .i64 77,.string ⟨#[114,111,111,109]⟩,.string ⟨#[]⟩,.int .i64 0,.int .i64 0,.int .i64 78,.string ⟨#[114,111,111,109]⟩,.string ⟨#[]⟩,.int .i64 0,.int .i64 0])∧Below base w w'∧Chg w w' (fun k=>k=db∨dv.ownBlock=some k)∧(dv.ownBlock=some g∨w.heap.size≤g):=by
 obtain ⟨i0,hi0,hz0,hz1,hz2⟩:=info_parts Tryz.infoO
 obtain ⟨hdb,hdl,dn,dxs,hown⟩:=hd
 have hc:=cells_1 hdb
 obtain ⟨DV,hDV⟩:∃ DV,DV=dv:=⟨_,rfl⟩
 have HDV:Hid (∀ k,dv.ownBlock=some k→DV.ownBlock=some k∨w.heap.size≤k):=fun k hk=>.inl (by rw [hDV];exact hk)
 have HEQ:Hid (DV=dv):=hDV
 clear hDV
 have HO:Hid _:=ho
 have HOW:Hid _:=hown
 have HDB:Hid _:=hdb
 clear ho hdb
 have hsnoc:∀ q o,os[q]? = some o→opCs (os.take (q+1))=opCs (os.take q) ++ o.cells:=fun q o h=>by rw [List.take_add_one,h];simp [opCs]
 have HSN:Hid _:=hsnoc
 clear hsnoc
 rcases hown.2 with ⟨rfl,h0⟩ | ⟨g,cap,cur,rfl,hg1,hg2,hg3,hg4,hg5,hg6⟩
 all_goals
  clear hown
  go_enter Tryz.func23,Tryz.ntmps23
  go_wp2_with fail
  clear hc
  go_loopw [5,6] (fun l i wr=>∃ q:Nat,i=.int .i64 q∧q≤os.length∧Hid (wr.ownsRow base 66 5 l q (opCs (os.take q)))∧Hid (Below base w wr)∧Hid (∃ dv,wr.heap[db]? = some (.cells #[dv] 44 (0,0)))∧Hid (Chg w wr (fun k=>k=db∨DV.ownBlock=some k))∧Hid (∀ k,l.ownBlock=some k→DV.ownBlock=some k∨w.heap.size≤k)) (fun _ i _=>os.length - (intOf i).toNat)
  case atStart =>
   refine ⟨0,rfl,Nat.zero_le _,?_,Below.refl _ _,⟨_,HDB.out⟩,Chg.refl _ _,HDV.out⟩
   first
    | exact World.ownsRow_nil _ _ _ _
    | exact ⟨rfl,.inr ⟨g,cap,cur,rfl,hg1,hg2,Nat.zero_le _,hg4,hg5,rfl⟩⟩
  case round =>
   obtain ⟨q,rfl,hq,HR,HBk,HD,HCk,HUk⟩:=hrel
   have hsk:=HBk.out.size
   by_cases hlt:q<os.length
   · obtain ⟨o,hoq⟩:∃ o,os[q]? = some o:=⟨os[q],List.getElem?_eq_getElem hlt⟩
     obtain ⟨b,f,rfl,hbl,hcs⟩:=HO.out q o hoq
     have hk:∀ j x,o.cells[j]? = some x→wr.cell? ⟨b,f+q * 5+j,none⟩=some x:=fun j x hx=>by rw [HBk.out.cell (p:=⟨b,f+q * 5+j,none⟩) hbl];exact hcs j x hx
     have k0:wr.cell? ⟨b,f+q * 5,none⟩=some (.int .i64 o.k):=hk 0 _ rfl
     have k1:=hk 1 _ rfl
     have k2:=hk 2 _ rfl
     have k3:=hk 3 _ rfl
     have k4:=hk 4 _ rfl
     have HTK:Hid _:=HSN.out q o hoq
     have hlt':(q:Int)<(os.length:Int):=by omega
     clear hk hcs hoq
     go_wp2_with (first
      | (at_builtin;refine wpList_append_lies _ rfl _ _ _ rfl base 66 i0 _ 5 56 Tryz.underlying42 hi0 hz0 hz1 hz2 rfl (by omega) u5 q (opCs (os.take q)) rfl (World.ownsRow.alloc HR.out _) ⟨wr.heap.size,0,none⟩ 1 1 [.int .i64 o.k,.string o.p,.string o.d,.int .i64 o.v,.int .i64 o.f] rfl rfl (World.news_of_block (cs:=#[.int .i64 o.k,.string o.p,.string o.d,.int .i64 o.v,.int .i64 o.f]) (t:=66) (fr:=(0,0)) (heap_alloc_new wr _)) (by simp [Value.oneCell']) (by omega) (by unfold maxLen;omega) (by omega) (by simp;omega) (wr.heap.size+1) (by simp) ?_
         intro g4 cap4 w4 hown4 hgrow4 hat4 hlt4
         have HN4:Hid (w4.ownsRow base 66 5 (.slice (some ⟨g4,0,none⟩) (q+1) cap4) (q+1) (opCs (os.take (q+1)))):=by rw [HTK.out];exact hown4
         have HB4:Hid (Below base w w4):=HBk.out.trans (((Below.refl _ _).alloc (by omega) _).grown hgrow4 (by simp;omega) (fun j hj=>(HR.out.lt j hj).1))
         have HD4:Hid (∃ dv,w4.heap[db]? = some (.cells #[dv] 44 (0,0))):=desk_grown HD.out HR.out hgrow4
         have HC4:Hid (Chg w w4 (fun k=>k=db∨DV.ownBlock=some k)):=chg_app HCk.out HUk.out hgrow4
         have HU4:Hid (∀ k,(Value.slice (some ⟨g4,0,none⟩) (q+1) cap4).ownBlock=some k→DV.ownBlock=some k∨w.heap.size≤k):=own_app (wr:=wr) HUk.out hat4 (by omega)
         clear hown4 hgrow4 hat4 hlt4)
      | fail)
     go_roundw
     case rel=>exact ⟨q+1,by go_num,by omega,HN4.out,HB4.out,HD4.out,HC4.out,HU4.out⟩
     case measure=>simp [intOf];omega
   · obtain rfl:q=os.length:=by omega
     rw [List.take_of_length_le (Nat.le_refl _)] at HR
     go_wp2_with (first
      | (at_builtin;refine wpList_append_lies _ rfl _ _ _ rfl base 66 i0 _ 5 56 Tryz.underlying42 hi0 hz0 hz1 hz2 rfl (by omega) u5 os.length (opCs os) rfl (World.ownsRow.alloc HR.out _) ⟨wr.heap.size,0,none⟩ 2 2 [.int .i64 77,.string ⟨#[114,111,111,109]⟩,.string ⟨#[]⟩,.int .i64 0,.int .i64 0,.int .i64 78,.string ⟨#[114,111,111,109]⟩,.string ⟨#[]⟩,.int .i64 0,.int .i64 0] rfl rfl (World.news_of_block (cs:=#[.int .i64 77,.string ⟨#[114,111,111,109]⟩,.string ⟨#[]⟩,.int .i64 0,.int .i64 0,.int .i64 78,.string ⟨#[114,111,111,109]⟩,.string ⟨#[]⟩,.int .i64 0,.int .i64 0]) (t:=66) (fr:=(0,0)) (heap_alloc_new wr _)) (by simp [Value.oneCell']) (by omega) (by unfold maxLen;omega) (by omega) (by simp;omega) (wr.heap.size+1) (by simp) ?_
         intro g4 cap4 w4 hown4 hgrow4 hat4 hlt4
         have HN4:Hid (w4.ownsRow base 66 5 (.slice (some ⟨g4,0,none⟩) (os.length+2) cap4) (os.length+2) (opCs os ++ [.int .i64 77,.string ⟨#[114,111,111,109]⟩,.string ⟨#[]⟩,.int .i64 0,.int .i64 0,.int .i64 78,.string ⟨#[114,111,111,109]⟩,.string ⟨#[]⟩,.int .i64 0,.int .i64 0])):=hown4
         have HB4:Hid (Below base w w4):=HBk.out.trans (((Below.refl _ _).alloc (by omega) _).grown hgrow4 (by simp;omega) (fun j hj=>(HR.out.lt j hj).1))
         have HC4:Hid (Chg w w4 (fun k=>k=db∨DV.ownBlock=some k)):=chg_app HCk.out HUk.out hgrow4
         have HU4:Hid (∀ k,(Value.slice (some ⟨g4,0,none⟩) (os.length+2) cap4).ownBlock=some k→DV.ownBlock=some k∨w.heap.size≤k):=own_app (wr:=wr) HUk.out hat4 (by omega)
         obtain ⟨dv4,hd4⟩:=desk_grown HD.out HR.out hgrow4
         have HD4:Hid _:=hd4
         have hc4:=cells_1 hd4
         have hf4:=free_1 hd4
         clear hown4 hgrow4 hat4 hlt4 hd4)
      | fail)
     go_ret
     obtain ⟨e1,e2,e3⟩:=desk_end hb hdl HD4.out HN4.out HB4.out
     exact ⟨g4,cap4,rfl,e1,e2,e3,by rw [← HEQ.out];exact HC4.out.trans ((Chg.set _ _ _).mono (fun _ _ h=>.inl h)),by rw [← HEQ.out];exact HU4.out g4 rfl⟩
end Go.Proofs.YtckmihplkhmpnaaGreatDoor
namespace Go.Proofs.YtckmihplkhmpnaaGreatDoor
open Go.RowKit Go.Maps
set_option linter.unusedVariables false
set_option linter.unusedSimpArgs false
abbrev roomCs:List Value:=[.int .i64 77,.string ⟨#[114,111,111,109]⟩,.string ⟨#[]⟩,.int .i64 0,.int .i64 0,.int .i64 78,.string ⟨#[114,111,111,109]⟩,.string ⟨#[]⟩,.int .i64 0,.int .i64 0]
theorem opCs_len (os:List OpT):(opCs os).length=os.length * 5:=by
 induction os with
 | nil=>rfl
 | cons o os ih=>simp [opCs] at *;omega
theorem opCs_at (os:List OpT) (q j:Nat) (o:OpT) (x:Value) (h:os[q]? = some o) (hx:o.cells[j]? = some x) (rest:List Value):(opCs os ++ rest)[q * 5+j]? = some x:=by
 induction os generalizing q with
 | nil=>cases h
 | cons a os ih =>
   have hj:j<5:=(List.getElem?_eq_some_iff.1 hx).1
   cases q with
   | zero =>
     cases h
     show (o.cells ++ opCs os ++ rest)[0 * 5+j]? = some x
     rw [Nat.zero_mul,Nat.zero_add,List.append_assoc,List.getElem?_append_left (by simpa using hj)]
     exact hx
   | succ q =>
     show (a.cells ++ opCs os ++ rest)[(q+1) * 5+j]? = some x
     rw [List.append_assoc,List.getElem?_append_right (by simp;omega)]
     rw [show (q+1) * 5+j - a.cells.length=q * 5+j by simp;omega]
     exact ih q h
theorem opCs_room (os:List OpT) (j:Nat):(opCs os ++ roomCs)[os.length * 5+j]? = roomCs[j]?:=by
 rw [List.getElem?_append_right (by rw [opCs_len];omega),opCs_len]
 congr 1
 omega
set_option maxHeartbeats 3200000 in
set_option maxRecDepth 100000 in
theorem untouched_any (base g cap:Nat) (w:World) (os:List OpT) (a:Option Addr) (c:Nat) (ho:OpsAt w base a os) (hr:w.ownsRow base 66 5 (.slice (some ⟨g,0,none⟩) (os.length+2) cap) (os.length+2) (opCs os ++ roomCs)) (hl:os.length≤2513169434846) :
  Calls Tryz.prog 24 #[.slice (some ⟨g,0,none⟩) (os.length+2) cap,.slice a os.length c] w fun e w'=>e=.returned (.bool true)∧Below w.heap.size w w':=by
 have HO:Hid _:=ho
 have HR:Hid (w.ownsRow base 66 5 (.slice (some ⟨g,0,none⟩) (os.length+2) cap) (os.length+2) (opCs os ++ roomCs)):=hr
 clear ho hr
 go_enter Tryz.func24,Tryz.ntmps24
 go_wp2_with fail
 go_loopw [6] (fun i wr=>∃ q:Nat,i=.int .i64 q∧q≤os.length∧Hid (Below w.heap.size w wr)) (fun i _=>os.length - (intOf i).toNat)
 case atStart=>exact ⟨0,rfl,Nat.zero_le _,Below.refl _ _⟩
 case round =>
  obtain ⟨q,rfl,hq,HBk⟩:=hrel
  by_cases hlt:q<os.length
  · obtain ⟨o,hoq⟩:∃ o,os[q]? = some o:=⟨os[q],List.getElem?_eq_getElem hlt⟩
    obtain ⟨b,f,rfl,hbl,hcs⟩:=HO.out q o hoq
    have hgl:g<w.heap.size:=(HR.out.lt g rfl).2
    have hbl':b<w.heap.size:=by have:=(HR.out.lt g rfl).1;omega
    have hk:∀ j x,o.cells[j]? = some x→wr.cell? ⟨b,f+q * 5+j,none⟩=some x:=fun j x hx=>by rw [HBk.out.cell (p:=⟨b,f+q * 5+j,none⟩) hbl'];exact hcs j x hx
    have hm:∀ j x,o.cells[j]? = some x→wr.cell? ⟨g,q * 5+j,none⟩=some x:=fun j x hx=>by rw [HBk.out.cell (p:=⟨g,q * 5+j,none⟩) hgl];exact cell_n HR.out (opCs_at os q j o x hoq hx _)
    have k0:wr.cell? ⟨b,f+q * 5,none⟩=some (.int .i64 o.k):=hk 0 _ rfl
    have k1:=hk 1 _ rfl
    have k2:=hk 2 _ rfl
    have k3:=hk 3 _ rfl
    have k4:=hk 4 _ rfl
    have m0:wr.cell? ⟨g,q * 5,none⟩=some (.int .i64 o.k):=hm 0 _ rfl
    have m1:=hm 1 _ rfl
    have m2:=hm 2 _ rfl
    have m3:=hm 3 _ rfl
    have m4:=hm 4 _ rfl
    have hlt':(q:Int)<(os.length:Int):=by omega
    have hlt2:(q:Int)<(os.length+2:Int):=by omega
    clear hk hm hcs hoq
    go_wp2_with fail
    go_region_held3 (fun w'=>w'.cell? ⟨b,f+q * 5,none⟩=some (.int .i64 o.k)∧w'.cell? ⟨b,f+q * 5+1,none⟩=some (.string o.p)∧w'.cell? ⟨b,f+q * 5+2,none⟩=some (.string o.d)∧w'.cell? ⟨b,f+q * 5+3,none⟩=some (.int .i64 o.v)∧w'.cell? ⟨b,f+q * 5+4,none⟩=some (.int .i64 o.f)∧w'.cell? ⟨g,q * 5,none⟩=some (.int .i64 o.k)∧w'.cell? ⟨g,q * 5+1,none⟩=some (.string o.p)∧w'.cell? ⟨g,q * 5+2,none⟩=some (.string o.d)∧w'.cell? ⟨g,q * 5+3,none⟩=some (.int .i64 o.v)∧w'.cell? ⟨g,q * 5+4,none⟩=some (.int .i64 o.f)) (go_keep) (fail)
    have HBd:Hid (Below w.heap.size w wr.drew):=below_drew HBk.out
    go_wp2_with fail
    go_roundw
    case rel=>exact ⟨q+1,by go_num,by omega,HBd.out⟩
    case measure=>simp [intOf];omega
  · obtain rfl:q=os.length:=by omega
    have hgl:g<w.heap.size:=(HR.out.lt g rfl).2
    have hm:∀ j x,roomCs[j]? = some x→wr.cell? ⟨g,os.length * 5+j,none⟩=some x:=fun j x hx=>by rw [HBk.out.cell (p:=⟨g,os.length * 5+j,none⟩) hgl];exact cell_n HR.out (by rw [opCs_room];exact hx)
    have m0:wr.cell? ⟨g,os.length * 5,none⟩=some (.int .i64 77):=hm 0 _ rfl
    have m1:=hm 1 _ rfl
    have m2:=hm 2 _ rfl
    have m3:=hm 3 _ rfl
    have m4:=hm 4 _ rfl
    have e5:∀ j,(os.length+1) * 5+j=os.length * 5+(5+j):=fun j=>by omega
    have n0:wr.cell? ⟨g,(os.length+1) * 5,none⟩=some (.int .i64 78):=by have:=hm 5 _ rfl;rw [show (os.length+1) * 5=os.length * 5+5 by omega];exact this
    have n1:wr.cell? ⟨g,(os.length+1) * 5+1,none⟩=some (.string ⟨#[114,111,111,109]⟩):=by rw [e5];exact hm 6 _ rfl
    have n2:wr.cell? ⟨g,(os.length+1) * 5+2,none⟩=some (.string ⟨#[]⟩):=by rw [e5];exact hm 7 _ rfl
    have n3:wr.cell? ⟨g,(os.length+1) * 5+3,none⟩=some (.int .i64 0):=by rw [e5];exact hm 8 _ rfl
    have n4:wr.cell? ⟨g,(os.length+1) * 5+4,none⟩=some (.int .i64 0):=by rw [e5];exact hm 9 _ rfl
    have hlt1:(os.length:Int)<(os.length+2:Int):=by omega
    have hlt2:(os.length+1:Int)<(os.length+2:Int):=by omega
    clear hm e5
    go_wp2_with fail
    go_ret
    exact ⟨rfl,HBk.out⟩
end Go.Proofs.YtckmihplkhmpnaaGreatDoor
