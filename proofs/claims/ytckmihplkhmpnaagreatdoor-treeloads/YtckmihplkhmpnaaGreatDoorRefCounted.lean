import Derived.Test.YtckmihplkhmpnaaGreatDoorTDig
import Derived.Test.YtckmihplkhmpnaaGreatDoorTRefI
namespace Go.Proofs.YtckmihplkhmpnaaGreatDoor
open Go.RowKit
def byAt:Nat→Int
 | 0=>10000
 | 1=>1000
 | 2=>100
 | 3=>10
 | 4=>1
 | _=>0
theorem conv_one (w:World) (z:Int) :
  (convert 67 9 (.slice (some ⟨w.heap.size,0,none⟩) 1 1)).run Tryz.prog (w.alloc (.cells #[.int .u8 z] 5))=.ok (.string (mk [UInt8.ofNat z.toNat])) (w.alloc (.cells #[.int .u8 z] 5)):=by
 have:=run_convert_bytes_arg (P:=Tryz.prog) (w.alloc (.cells #[.int .u8 z] 5)) 67 5 Tryz.underlying67 Tryz.underlying5 w.heap.size 0 1 1 [z] rfl (fun i hi=>by
  have:i=0:=by omega
  subst this
  rw [World.cell?_alloc_at _ _ _ _ rfl]
  rfl) 9 Tryz.underlying9
 rw [this]
 rfl
theorem of48 (m:Nat):(48:UInt8)+UInt8.ofNat m=UInt8.ofNat (48+m):=by
 rw [UInt8.ofNat_add]
 rfl
theorem count_step {t0 s:ByteArray} {n j:Nat} {b:UInt8} (h:t0=mk (s.data.toList ++ (five n).take j)) (hb:(five n)[j]? = some b):t0 ++ mk [b]=mk (s.data.toList ++ (five n).take (j+1)):=by
 rw [h,List.take_add_one,hb]
 have:=ByteArray.mk_append_mk (s.data.toList ++ (five n).take j) [b]
 rw [List.append_assoc] at this
 exact this
set_option maxHeartbeats 1600000 in
set_option maxRecDepth 100000 in
theorem refCounted_good {n:Nat} (hn:n≤99999) {s:ByteArray} {xs:List ByteArray} (h:parse s=(0,xs)) (k:Nat) (hk:xs.length=k+1) (x:ByteArray) (hx:xs[k]? = some x) (hl:x.size≤11) (w:World) :
  Calls Tryz.prog 94 #[.string s,.int .i64 (n:Int)] w fun e w'=>e=.returned (.tuple #[.string (mk (s.data.toList ++ five n)),.int .i64 0])∧Below w.heap.size w w':=by
 have hs:=parse_size h
 have HP:Hid _:=refParse_some h (fun e=>by rw [e] at hk;simp at hk)
 have HX:Hid (xs[k]? = some x):=hx
 have hl':¬ (11:Int)<(x.size:Int):=by omega
 have hkm:k≤5:=by have:=(parse_len h).1;omega
 have hk0:((k:Int)+1==0)=false:=by simp;omega
 have hn1:¬ (n:Int)<0:=by omega
 have hn2:¬ (99999:Int)<(n:Int):=by omega
 clear h hx hl
 go_enter Tryz.func94,Tryz.ntmps94
 go_wp2_with (first | (go_at_call 55;refine (HP.out _).mono ?_;rintro e w1 ⟨b,o,c,rfl,hlt,hs,hcap,hb⟩;have hcell:=hs k x HX.out;have HB:Hid _:=hb;clear hb hs hlt hcap))
 clear hcell HP HX
 go_loopw [8,9] (fun t by_ wr=>∃ (j:Nat) (t0:ByteArray),j≤5∧by_=.int .i64 (byAt j)∧t=.string t0∧Below w.heap.size w wr∧Hid (t0=mk (s.data.toList ++ (five n).take j))) (fun _ by_ _=>(intOf by_).toNat)
 case atStart=>exact ⟨0,s,by omega,rfl,rfl,HB.out,(show s=mk (s.data.toList ++ (five n).take 0) by rw [List.take_zero,List.append_nil,mk_data])⟩
 case round =>
  obtain ⟨j,t0,hj,rfl,rfl,hbel,HT⟩:=hrel
  have hc1:=conv_one wr
  have hts:t0.size≤107:=by
   rw [HT.out,size_mk,List.length_append]
   have h1:s.data.toList.length=s.size:=by simp
   have h2:((five n).take j).length≤5:=by rw [List.length_take];simp [five];omega
   omega
  have hm1:∀ b:UInt8,(mk [b]).size=1:=fun b=>rfl
  rcases (show j=0∨j=1∨j=2∨j=3∨j=4∨j=5 by omega) with rfl | rfl | rfl | rfl | rfl | rfl
  · have HX:Hid _:=count_step HT.out (show (five n)[0]? = some (UInt8.ofNat (48+n / 10000 % 10)) from rfl)
    simp only [byAt]
    go_wp2
    go_roundw
    case rel=>exact ⟨1,_,by omega,rfl,rfl,hbel.alloc hbel.size _,by rw [of48];exact HX.out⟩
    case measure=>simp [intOf]
  · have HX:Hid _:=count_step HT.out (show (five n)[1]? = some (UInt8.ofNat (48+n / 1000 % 10)) from rfl)
    simp only [byAt]
    go_wp2
    go_roundw
    case rel=>exact ⟨2,_,by omega,rfl,rfl,hbel.alloc hbel.size _,by rw [of48];exact HX.out⟩
    case measure=>simp [intOf]
  · have HX:Hid _:=count_step HT.out (show (five n)[2]? = some (UInt8.ofNat (48+n / 100 % 10)) from rfl)
    simp only [byAt]
    go_wp2
    go_roundw
    case rel=>exact ⟨3,_,by omega,rfl,rfl,hbel.alloc hbel.size _,by rw [of48];exact HX.out⟩
    case measure=>simp [intOf]
  · have HX:Hid _:=count_step HT.out (show (five n)[3]? = some (UInt8.ofNat (48+n / 10 % 10)) from rfl)
    simp only [byAt]
    go_wp2
    go_roundw
    case rel=>exact ⟨4,_,by omega,rfl,rfl,hbel.alloc hbel.size _,by rw [of48];exact HX.out⟩
    case measure=>simp [intOf]
  · have HX:Hid _:=count_step HT.out (show (five n)[4]? = some (UInt8.ofNat (48+n % 10)) from rfl)
    simp only [byAt]
    go_wp2
    go_roundw
    case rel=>exact ⟨5,_,by omega,rfl,rfl,hbel.alloc hbel.size _,by rw [of48];exact HX.out⟩
    case measure=>simp [intOf]
  · have HX:Hid (t0=mk (s.data.toList ++ five n)):=HT.out
    clear HT
    simp only [byAt]
    go_wp2
    go_ret2
    exact ⟨by rw [← HX.out];rfl,hbel⟩
end Go.Proofs.YtckmihplkhmpnaaGreatDoor
