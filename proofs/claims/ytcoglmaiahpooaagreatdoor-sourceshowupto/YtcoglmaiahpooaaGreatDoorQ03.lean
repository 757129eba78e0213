/- Texts put together: Pm, Ps. -/
import Derived.Test.YtcoglmaiahpooaaGreatDoorQ01
import Derived.Lib.ItoaNum
set_option linter.unusedVariables false
set_option linter.unusedSimpArgs false
set_option maxHeartbeats 8000000
namespace Go.Proofs.YtcoglmaiahpooaaGreatDoor
def nob:ByteArray:=⟨#[]⟩
def maxB:ByteArray:=⟨#[109,97,120]⟩
def pe0:PE:=.mk 0 0 0 0 nob nob 0 []
def dgI (b:Int):Bool:=decide (48≤b) && decide (b≤57)
def grI (b:Int):Bool:=decide (65≤b) && decide (b≤90)
def smI (b:Int):Bool:=decide (97≤b) && decide (b≤122)
def ltI (b:Int):Bool:=smI b ||grI b ||decide (b=95)
def resW:List (List UInt8):=[[112,114,111,103,114,97,109],[101,110,100,95,112,114,111,103,114,97,109],[102,117,110,99,116,105,111,110],[101,110,100,95,102,117,110,99,116,105,111,110],[102,117,110,99,116,105,111,110,95,98,108,111,99,107],[101,110,100,95,102,117,110,99,116,105,111,110,95,98,108,111,99,107],[118,97,114],[118,97,114,95,105,110,112,117,116],[118,97,114,95,111,117,116,112,117,116],[118,97,114,95,101,120,116,101,114,110,97,108],[114,101,116,97,105,110],[101,110,100,95,118,97,114],[97,114,114,97,121],[111,102],[98,111,111,108],[105,110,116],[100,105,110,116],[119,111,114,100],[116,105,109,101],[105,102],[116,104,101,110],[101,108,115,105,102],[101,108,115,101],[101,110,100,95,105,102],[99,97,115,101],[101,110,100,95,99,97,115,101],[102,111,114],[116,111],[98,121],[100,111],[101,110,100,95,102,111,114],[119,104,105,108,101],[109,97,120],[101,110,100,95,119,104,105,108,101],[114,101,112,101,97,116],[117,110,116,105,108],[101,110,100,95,114,101,112,101,97,116],[101,120,105,116],[99,111,110,116,105,110,117,101],[114,101,116,117,114,110],[111,114],[120,111,114],[97,110,100],[109,111,100],[110,111,116],[116,114,117,101],[102,97,108,115,101],[108,97,100,100,101,114],[101,110,100,95,108,97,100,100,101,114],[114,117,110,103],[100,105,97,103,114,97,109],[101,110,100,95,100,105,97,103,114,97,109],[112,114,101,118]]
def x4_ (s:ByteArray):Bool:=resW.contains s.toList
def okI (b:Int):Bool:=!grI b && (ltI b ||dgI b)
def y5_ (l:List UInt8):Bool:=l.all fun b=>okI b.toNat
def jh_ (l:List UInt8):Bool:=l.all fun b=>dgI b.toNat
def q2_:List UInt8→Bool
 | a::b::l=>decide (a.toNat=37) && dgI b.toNat && jh_ l && decide (l.length≤8) && (!decide (b.toNat=48) || decide (l.length=0))
 | _=>false
def isW:List UInt8→Bool
 | a::l=>decide (l.length≤23) && !dgI a.toNat && y5_ (a::l)
 | []=>false
def nmB (s:ByteArray):Bool:=isW s.data.toList && !x4_ s ||q2_ s.data.toList
def xu_ (n:Int):Bool:=decide (-4294967295≤n) && decide (n≤4294967295)
def kdB (k:Int):Bool:=decide (1≤k) && decide (k≤5)
def yk_ (k n:Int):Bool:=decide (k=0) && xu_ n ||decide (k=1) && (decide (0≤n) && decide (n≤1)) ||decide (k=5) && (decide (0≤n) && decide (n≤4294967295))
def lvS (op:Int):Int:=
 if op=1∨op=2 then 6 else if op=3∨op=4∨op=5 then 7 else if op=6 then 3 else if op=7 then 1 else if op=8 then 2 else if op=9∨op=10 then 4 else if 11≤op∧op≤14 then 5 else 0
def brB (f o:Int) (i:Nat):PE→Bool
 | .mk kf ko kk kn _ _ _ _=>
  if f=5 then decide (kf=6) ||decide (o=22) && (decide (kf=1) && (decide (kk=0) && decide (0≤kn)))
  else if f=6 then decide (kf=6) && (decide (lvS ko<lvS o) ||decide (i=1) && decide (lvS ko=lvS o)) else false
def hdB (f o k n:Int) (nm pt:ByteArray) (c:Nat):Bool:=
 if f=1 then yk_ k n && (decide (o=0) && decide (nm=nob) && decide (pt=nob) && decide (c=0))
 else decide (k=0) && decide (n=0) && (
 if f=2 then nmB nm && (decide (o=0) && decide (pt=nob) && decide (c=0))
 else if f=3 then nmB nm && (decide (o=0) && decide (pt=nob) && decide (c=1))
 else if f=4 then nmB nm && nmB pt && (decide (o=0) && decide (c=0))
 else if f=5 then(decide (o=21) ||decide (o=22)) && (decide (nm=nob) && decide (pt=nob) && decide (c=1))
 else if f=6 then decide (0<lvS o) && (decide (nm=nob) && decide (pt=nob) && decide (c=2))
 else if f=7 then(nmB nm ||decide (nm=maxB)) && (decide (o=0) && decide (pt=nob) && (decide (1≤c) && decide (c≤8)))
 else false)
mutual
def xr_ (d:Int):PE→Bool
 | .mk f o k n nm pt _ ks=>decide (d≤40) && hdB f o k n nm pt ks.length && yg_ f o (if f=6 then d else d+1) 0 ks
def yg_ (f o d:Int) (i:Nat):List PE→Bool
 | []=>true
 | e::l=>xr_ (if brB f o i e=true then d+1 else d) e && yg_ f o d (i+1) l
end
def PE.form:PE→Int
 | .mk f _ _ _ _ _ _ _=>f
def xz_:PE→Bool
 | .mk f o k n nm pt _ ks=>decide (f=0) && decide (o=0) && decide (k=0) && decide (n=0) && decide (nm=nob) && decide (pt=nob) && decide (ks.length=0)
def js_ (n:Int):Bool:=decide (1≤n) && decide (n≤1000)
def qh_ (low len:Int):Bool:=if len=0 then decide (low=0) else js_ len && xu_ low && xu_ (low+len - 1)
def km_:PE→Bool
 | e=>if e.form=1 then xr_ 1 e else xz_ e
def yo_ (v:PV):Bool:=nmB v.name && (decide (1≤v.role) && decide (v.role≤5)) && km_ v.init && (if v.kind=0 then nmB v.of && decide (v.low=0) && decide (v.len=0) else kdB v.kind && decide (v.of=nob) && qh_ v.low v.len)
def yl_ (d:Int) (a:PArg):Bool:=nmB a.name && (if a.out=true then nmB a.to && xz_ a.e else decide (a.to=nob) && xr_ d a.e)
def y2_ (l:Int×Int):Bool:=xu_ l.1 && xu_ l.2 && decide (l.1≤l.2)
def yw_ (n:Int):Bool:=decide (1≤n) && decide (n≤10000)
def yb_ (v:Int) (nm:ByteArray) (it:Bool) (es as ms el b:Nat) (lo hi by' ti:Int):Bool:=
 let n:=decide (nm=nob);let z:=decide (lo=0) && decide (hi=0) && decide (by'=0)
 if v=1 then nmB nm && (if it=true then decide (es=2) else decide (es=1)) && decide (as=0) && decide (ms=0) && decide (el=0) && decide (b=0) && z && decide (ti=0)
 else if v=2 then nmB nm && !it && decide (es=0) && decide (as≤16) && decide (ms=0) && decide (el=0) && decide (b=0) && z && decide (ti=0)
 else if v=3 then n && !it && decide (es=0) && decide (as=0) && decide (0<ms) && decide (b=0) && z && decide (ti=0)
 else if v=4 then n && !it && decide (es=1) && decide (as=0) && decide (0<ms) && decide (b=0) && z && decide (ti=0)
 else if v=5 then nmB nm && !it && decide (es=0) && decide (as=0) && decide (ms=0) && decide (el=0) && (xu_ lo && xu_ hi && decide (hi - lo+1≤10000) && yw_ by') && decide (ti=0)
 else if v=6∨v=7 then n && !it && decide (es=1) && decide (as=0) && decide (ms=0) && decide (el=0) && z && yw_ ti
 else if v=8∨v=9∨v=10 then n && !it && decide (es=0) && decide (as=0) && decide (ms=0) && decide (el=0) && decide (b=0) && z && decide (ti=0)
 else false
def kn_ (v d:Int) (e:PE) (ls:List (Int×Int)):Bool:=if v=3 then decide (ls.length=0) && xr_ d e else xz_ e && decide (0<ls.length) && ls.all y2_
mutual
def ye_ (d:Int):PS→Bool
 | .mk v _ nm it es as ms el b lo hi by' ti=>yb_ v nm it es.length as.length ms.length el.length b.length lo hi by' ti && es.all (xr_ d) && as.all (yl_ d) && y6_ v d ms && xq_ d el && xq_ d b
def xq_ (d:Int):List PS→Bool
 | []=>true
 | s::l=>decide (d≤40) && ye_ (d+1) s && xq_ d l
def x5_ (v d:Int):PArm→Bool
 | .mk e ls b=>kn_ v d e ls && xq_ d b
def y6_ (v d:Int):List PArm→Bool
 | []=>true
 | a::l=>x5_ v d a && y6_ v d l
end
def yx_ (u:PU):Bool:=(if u.kind=1∨u.kind=3 then decide (u.result=0) else if u.kind=2 then kdB u.result else false) && nmB u.name && decide (u.vars.length≤200) && u.vars.all yo_ && xq_ 1 u.body
abbrev Tx:=List UInt8
def sp (n:Nat):Tx:=List.replicate n 32
def ptL (m L:Int) (u:Tx):Tx:=if L≤m then Lib.itoa (m / L)++u else []
def j5_ (n:Int):Tx:=
 if n=0 then [84,35,48,109,115] else [84,35]++(ptL n 86400000 [100]++(ptL (n % 86400000) 3600000 [104]++(ptL (n % 86400000 % 3600000) 60000 [109]++(ptL (n % 86400000 % 3600000 % 60000) 1000 [115]++ptL (n % 86400000 % 3600000 % 60000 % 1000) 1 [109,115]))))
def yf_ (k n:Int):Tx:=if k=0 then Lib.itoa n else if k=1 then(if n=0 then [70,65,76,83,69] else [84,82,85,69]) else j5_ n
def opT (o:Int):Tx:=
 if o=1 then [43] else if o=2 then [45] else if o=3 then [42] else if o=4 then [47] else if o=5 then [77,79,68] else if o=6 then [65,78,68] else if o=7 then [79,82] else if o=8 then [88,79,82] else if o=9 then [61] else if o=10 then [60,62] else if o=11 then [60] else if o=12 then [60,61] else if o=13 then [62] else [62,61]
mutual
def shE:PE→Tx
 | .mk f o k n nm pt _ ks=>
  if f=1 then yf_ k n
  else if f=2 then nm.data.toList
  else if f=3 then nm.data.toList++([91]++(shK [] 3 o 0 ks++[93]))
  else if f=4 then nm.data.toList++([46]++pt.data.toList)
  else if f=5 then(if o=21 then [78,79,84,32] else [45])++shK [] 5 o 0 ks
  else if f=6 then shK (32::(opT o++[32])) 6 o 0 ks
  else nm.data.toList++([40]++(shK [44,32] 7 o 0 ks++[41]))
def shK (sep:Tx) (f o:Int) (i:Nat):List PE→Tx
 | []=>[]
 | e::l=>(if i=0 then [] else sep)++((if brB f o i e=true then [40]++(shE e++[41]) else shE e)++shK sep f o (i+1) l)
end
def yc_ (k:Int):Tx:=if k=1 then [66,79,79,76] else if k=2 then [73,78,84] else if k=3 then [68,73,78,84] else if k=4 then [87,79,82,68] else [84,73,77,69]
def ji_ (r:Int):Tx:=if r=1 then [86,65,82] else if r=2 then [86,65,82,95,73,78,80,85,84] else if r=3 then [86,65,82,95,79,85,84,80,85,84] else if r=4 then [86,65,82,95,69,88,84,69,82,78,65,76] else [86,65,82,32,82,69,84,65,73,78]
def PE.k:PE→Int
 | .mk _ _ k _ _ _ _ _=>k
def PE.n:PE→Int
 | .mk _ _ _ n _ _ _ _=>n
def q3_ (v:PV):Tx:=
 [32,32]++(v.name.data.toList++([32,58,32]++((if v.kind=0 then v.of.data.toList else if 0<v.len then [65,82,82,65,89,91]++(Lib.itoa v.low++([46,46]++(Lib.itoa (v.low+v.len - 1)++([93,32,79,70,32]++yc_ v.kind)))) else yc_ v.kind)++((if v.init.form=1 then [32,58,61,32]++yf_ v.init.k v.init.n else [])++[59,10]))))
def y3_:Tx:=[69,78,68,95,86,65,82,10]
def shV (last:Int):List PV→Tx
 | []=>if last=0 then [] else y3_
 | v::l=>(if v.role=last then [] else(if last=0 then [] else y3_)++(ji_ v.role++[10]))++(q3_ v++shV v.role l)
def z3_ (a:PArg):Tx:=if a.out=true then a.name.data.toList++([32,61,62,32]++a.to.data.toList) else a.name.data.toList++([32,58,61,32]++shE a.e)
def yq_ {α:Type} (f:α→Tx) (i:Nat):List α→Tx
 | []=>[]
 | a::l=>(if i=0 then [] else [44,32])++(f a++yq_ f (i+1) l)
def zq_ (l:Int×Int):Tx:=if l.1<l.2 then Lib.itoa l.1++([46,46]++Lib.itoa l.2) else Lib.itoa l.1
def ex (es:List PE) (i:Nat):PE:=es.getD i pe0
mutual
def shS (b:Nat):PS→Tx
 | .mk v _ nm it es as ms el bo lo hi by' ti=>
  if v=1 then sp b++(nm.data.toList++((if it=true then [91]++(shE (ex es 1)++[93]) else [])++([32,58,61,32]++(shE (ex es 0)++[59,10]))))
  else if v=2 then sp b++(nm.data.toList++([40]++(yq_ z3_ 0 as++[41,59,10])))
  else if v=3 then shA 3 b 0 ms++((if el.length=0 then [] else sp b++([69,76,83,69,10]++shL (b+2) el))++(sp b++[69,78,68,95,73,70,59,10]))
  else if v=4 then sp b++([67,65,83,69,32]++(shE (ex es 0)++([32,79,70,10]++(shA 4 b 0 ms++((if el.length=0 then [] else sp b++([69,76,83,69,10]++shL (b+2) el))++(sp b++[69,78,68,95,67,65,83,69,59,10]))))))
  else if v=5 then sp b++([70,79,82,32]++(nm.data.toList++([32,58,61,32]++(Lib.itoa lo++([32,84,79,32]++(Lib.itoa hi++((if by'=1 then [] else [32,66,89,32]++Lib.itoa by')++([32,68,79,10]++(shL (b+2) bo++(sp b++[69,78,68,95,70,79,82,59,10]))))))))))
  else if v=6 then sp b++([87,72,73,76,69,32]++(shE (ex es 0)++([32,77,65,88,32]++(Lib.itoa ti++([32,68,79,10]++(shL (b+2) bo++(sp b++[69,78,68,95,87,72,73,76,69,59,10])))))))
  else if v=7 then sp b++([82,69,80,69,65,84,10]++(shL (b+2) bo++(sp b++([85,78,84,73,76,32]++(shE (ex es 0)++([32,77,65,88,32]++(Lib.itoa ti++([10]++(sp b++[69,78,68,95,82,69,80,69,65,84,59,10])))))))))
  else if v=8 then sp b++[69,88,73,84,59,10]
  else if v=9 then sp b++[67,79,78,84,73,78,85,69,59,10]
  else sp b++[82,69,84,85,82,78,59,10]
def shL (b:Nat):List PS→Tx
 | []=>[]
 | s::l=>shS b s++shL b l
def shM (v:Int) (b i:Nat):PArm→Tx
 | .mk e ls bo=>if v=3 then sp b++((if i=0 then [73,70,32] else [69,76,83,73,70,32])++(shE e++([32,84,72,69,78,10]++shL (b+2) bo))) else sp (b+2)++(yq_ zq_ 0 ls++([58,10]++shL (b+4) bo))
def shA (v:Int) (b i:Nat):List PArm→Tx
 | []=>[]
 | a::l=>shM v b i a++shA v b (i+1) l
end
def zc_ (k:Int):Tx:=if k=1 then [80,82,79,71,82,65,77] else if k=2 then [70,85,78,67,84,73,79,78] else [70,85,78,67,84,73,79,78,95,66,76,79,67,75]
def shU (u:PU):Tx:=zc_ u.kind++([32]++(u.name.data.toList++((if u.kind=2 then [32,58,32]++yc_ u.result else [])++([10]++(shV 0 u.vars++(shL 2 u.body++([69,78,68,95]++(zc_ u.kind++[10]))))))))
end Go.Proofs.YtcoglmaiahpooaaGreatDoor
