/- The library's functions that values and larders call, by the library's own contracts, laid at this program: each is one application. -/
import Derived.Shelf.Strings.OnBuilder
import Derived.Shelf.Slices.Turned
import Derived.Ground.Names2Prog
import Derived.Shelf.Slices.Clone
import Derived.Test.YtpekpdimdelncaaGreatDoorProg
import Derived.Shelf.Strings.SlTrimAscii
namespace Go.Proofs
open Go.Shelf Tryz
def Tryz.lays156_ren:Go.Shelf.Ren:=⟨fun|156=>340|165=>341|166=>95|169=>97|240=>139|241=>342|276=>188|277=>343|n=>n,fun|31=>40|9=>9|3=>3|4=>4|0=>0|20=>20|72=>188|76=>191|70=>186|37=>106|75=>190|127=>232|164=>274|5=>5|80=>73|n=>n,fun|n=>n⟩
theorem Tryz.lays156:Go.Proofs.Lays.n156 prog Tryz.lays156_ren:={
 mixed:=by kernel_rfl
 f156:=func340.trans (congrArg some (by kernel_rfl))
 f165:=func341.trans (congrArg some (by kernel_rfl))
 f166:=func95.trans (congrArg some (by kernel_rfl))
 f169:=func97.trans (congrArg some (by kernel_rfl))
 f240:=func139.trans (congrArg some (by kernel_rfl))
 f241:=func342.trans (congrArg some (by kernel_rfl))
 f276:=func188.trans (congrArg some (by kernel_rfl))
 f277:=func343.trans (congrArg some (by kernel_rfl))
 t0:=underlying0
 a0:=isAgg0
 z0:=sizeOf0
 v0:=zeroValue0
 t3:=underlying3
 a3:=isAgg3
 z3:=sizeOf3
 v3:=zeroValue3
 t4:=underlying4
 a4:=isAgg4
 z4:=sizeOf4
 v4:=zeroValue4
 t9:=underlying9
 a9:=isAgg9
 z9:=sizeOf9
 v9:=zeroValue9
 t20:=underlying20
 a20:=isAgg20
 z20:=sizeOf20
 v20:=zeroValue20
 t31:=underlying40
 a31:=isAgg40
 z31:=sizeOf40
 v31:=zeroValue40
 t37:=underlying106
 a37:=isAgg106
 z37:=sizeOf106
 v37:=zeroValue106
 t70:=underlying186
 a70:=isAgg186
 z70:=sizeOf186
 v70:=zeroValue186
 t72:=underlying188
 a72:=isAgg188
 z72:=sizeOf188
 v72:=zeroValue188
 t75:=underlying190
 a75:=isAgg190
 z75:=sizeOf190
 v75:=zeroValue190
 t76:=underlying191
 a76:=isAgg191
 z76:=sizeOf191
 v76:=zeroValue191
 t127:=underlying232
 a127:=isAgg232
 z127:=sizeOf232
 v127:=zeroValue232
 t164:=underlying274
 a164:=isAgg274
 z164:=sizeOf274
 v164:=zeroValue274}
theorem Tryz.Builder_Extra_156:Builder.Extra prog Tryz.lays156_ren:={
 sizeBuilder:=by kernel_rfl
 liesBuilder:=by kernel_rfl
 t5:=underlying5
 a5:=isAgg5
 z5:=sizeOf5
 v5:=zeroValue5
 infoByte:=by kernel_rfl
 cellsByte:=by kernel_rfl
 sizeByte:=by kernel_rfl
 neB5:=by decide}
open Go.RowKit in
theorem Tryz.strings_Join (bk o c:Nat) (xs:List ByteArray) (sep:ByteArray) (w:World) (hcells:∀(j:Nat) x,xs[j]?=some x->w.cell? ⟨bk,o+j,none⟩=some (.string x)) (hbk:bk<w.heap.size) (hN:xs.length<=140737488355328) (hcap:xs.length<=c) (hlen:(Lib.join (xs.map (·.data.toList)) sep.data.toList).length<=140737488355328) :
 Calls prog 340 #[.slice (some ⟨bk,o,none⟩) xs.length c,.string sep] w λe w'=>e=.returned (.string ⟨(Lib.join (xs.map (·.data.toList)) sep.data.toList).toArray⟩)/\Below w.heap.size w w':=Any.strings_Join Tryz.lays156 Tryz.Builder_Extra_156 bk o c xs sep w hcells hbk hN hcap hlen
def Tryz.lays161_ren:Go.Shelf.Ren:=⟨fun|161=>129|231=>166|227=>167|233=>168|235=>169|228=>206|197=>207|151=>208|260=>253|152=>254|137=>123|119=>286|224=>225|225=>224|217=>158|266=>199|n=>n,fun|9=>9|4=>4|3=>3|5=>5|117=>252|116=>251|0=>0|124=>255|105=>297|21=>21|119=>353|46=>226|139=>356|138=>355|n=>n,fun|3=>2|4=>3|n=>n⟩
theorem Tryz.lays161:Go.Proofs.Lays.n161 prog Tryz.lays161_ren:={
 mixed:=by kernel_rfl
 f119:=func286.trans (congrArg some (by kernel_rfl))
 f137:=func123.trans (congrArg some (by kernel_rfl))
 f151:=func208.trans (congrArg some (by kernel_rfl))
 f152:=func254.trans (congrArg some (by kernel_rfl))
 f161:=func129.trans (congrArg some (by kernel_rfl))
 f197:=func207.trans (congrArg some (by kernel_rfl))
 f217:=func158.trans (congrArg some (by kernel_rfl))
 f224:=func225.trans (congrArg some (by kernel_rfl))
 f225:=func224.trans (congrArg some (by kernel_rfl))
 f227:=func167.trans (congrArg some (by kernel_rfl))
 f228:=func206.trans (congrArg some (by kernel_rfl))
 f231:=func166.trans (congrArg some (by kernel_rfl))
 f233:=func168.trans (congrArg some (by kernel_rfl))
 f235:=func169.trans (congrArg some (by kernel_rfl))
 f260:=func253.trans (congrArg some (by kernel_rfl))
 f266:=func199.trans (congrArg some (by kernel_rfl))
 t0:=underlying0
 a0:=isAgg0
 z0:=sizeOf0
 v0:=zeroValue0
 t3:=underlying3
 a3:=isAgg3
 z3:=sizeOf3
 v3:=zeroValue3
 t4:=underlying4
 a4:=isAgg4
 z4:=sizeOf4
 v4:=zeroValue4
 t5:=underlying5
 a5:=isAgg5
 z5:=sizeOf5
 v5:=zeroValue5
 t9:=underlying9
 a9:=isAgg9
 z9:=sizeOf9
 v9:=zeroValue9
 t21:=underlying21
 a21:=isAgg21
 z21:=sizeOf21
 v21:=zeroValue21
 t46:=underlying226
 a46:=isAgg226
 z46:=sizeOf226
 v46:=zeroValue226
 t105:=underlying297
 a105:=isAgg297
 z105:=sizeOf297
 v105:=zeroValue297
 t116:=underlying251
 a116:=isAgg251
 z116:=sizeOf251
 t117:=underlying252
 a117:=isAgg252
 z117:=sizeOf252
 v117:=zeroValue252
 t119:=underlying353
 a119:=isAgg353
 z119:=sizeOf353
 t124:=underlying255
 a124:=isAgg255
 z124:=sizeOf255
 v124:=zeroValue255
 t138:=underlying355
 a138:=isAgg355
 z138:=sizeOf355
 v138:=zeroValue355
 t139:=underlying356
 a139:=isAgg356
 z139:=sizeOf356
 v139:=zeroValue356
 g3:=by kernel_rfl
 g4:=by kernel_rfl}
def Tryz.lays109_ren:Go.Shelf.Ren:=⟨fun|109=>83|n=>n,fun|31=>40|9=>9|3=>3|0=>0|4=>4|n=>n,fun|n=>n⟩
theorem Tryz.lays109:Go.Proofs.Lays.n109 prog Tryz.lays109_ren:={
 mixed:=by kernel_rfl
 f109:=func83.trans (congrArg some (by kernel_rfl))
 t0:=underlying0
 a0:=isAgg0
 z0:=sizeOf0
 v0:=zeroValue0
 t3:=underlying3
 a3:=isAgg3
 z3:=sizeOf3
 v3:=zeroValue3
 t4:=underlying4
 a4:=isAgg4
 z4:=sizeOf4
 v4:=zeroValue4
 t9:=underlying9
 a9:=isAgg9
 z9:=sizeOf9
 v9:=zeroValue9
 t31:=underlying40
 a31:=isAgg40
 z31:=sizeOf40
 v31:=zeroValue40}
open Go.Lib in
theorem Tryz.slices_Index_string (b off n c:Nat) (zs:List ByteArray) (x:ByteArray) (w:World) (hz:n<=zs.length) (hbig:n<=9223372036854775807) (hc:∀j,j<zs.length->w.cell? ⟨b,off+j,none⟩=some (.string (zs.getD j ByteArray.empty))) :
 Calls prog 83 #[.slice (some ⟨b,off,none⟩) n c,.string x] w λe w'=>e=.returned (.int .i64 (Lib.idxOfS (zs.take n) x))/\w'=w:=Any.slices_Index_string Tryz.lays109 b off n c zs x w hz hbig hc
open Go.Lib in
theorem Tryz.slices_Index_string_empty (a:Option Addr) (c:Nat) (x:ByteArray) (w:World) :
 Calls prog 83 #[.slice a 0 c,.string x] w λe w'=>e=.returned (.int .i64 (Lib.idxOfS [] x))/\w'=w:=Any.slices_Index_string_empty Tryz.lays109 a c x w
def Tryz.laysNm216_ren:Go.Shelf.Ren:=⟨fun|16=>51|n=>n,fun|24=>40|9=>9|4=>4|n=>n,fun|n=>n⟩
theorem Tryz.laysNm216:Go.Proofs.Lays2.n16 prog Tryz.laysNm216_ren:={
 mixed:=by kernel_rfl
 f16:=func51.trans (congrArg some (by kernel_rfl))
 t4:=underlying4
 a4:=isAgg4
 z4:=sizeOf4
 v4:=zeroValue4
 t9:=underlying9
 a9:=isAgg9
 z9:=sizeOf9
 v9:=zeroValue9
 t24:=underlying40
 a24:=isAgg40
 z24:=sizeOf40
 v24:=zeroValue40
 i9:=by kernel_rfl}
open Go.RowKit Go.Lib in
theorem Tryz.slices_Clone_string (b off n c:Nat) (zs:List ByteArray) (w:World) (hz:n<=zs.length) (hbig:n*16<=140737488355328) (hc:∀j,j<zs.length->w.cell? ⟨b,off+j,none⟩=some (.string (zs.getD j ByteArray.empty))) :
 Calls prog 51 #[.slice (some ⟨b,off,none⟩) n c] w λe w'=>∃v',e=.returned v'/\w'.ownsRow w.heap.size 9 1 v' n ((zs.take n).map (Value.string))/\v'≠.slice none 0 0/\Below w.heap.size w w':=Any.slices_Clone_string Tryz.laysNm216 b off n c zs w hz hbig hc
open Go.RowKit Go.Lib in
theorem Tryz.slices_Clone_string_nil (n c:Nat) (w:World) :
 Calls prog 51 #[.slice none n c] w λe w'=>e=.returned (.slice none 0 0)/\w'=w:=Any.slices_Clone_string_nil Tryz.laysNm216 n c w
end Go.Proofs
