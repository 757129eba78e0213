/- Texts put together: Pp, Pq, Pr. -/
import GoSem.Claims
namespace Go.Proofs.YtdcoidmbainkmaaGreatDoor
structure Tok where
 c : Int
 x : ByteArray
 n : Int
 a : Int
 e : Int
 f : Int
inductive Res (α : Type) where
 | ok (v : α) (t : Tok)
 | bad (c a : Int)
def Res.bind {α β : Type} : Res α → (α → Tok → Res β) → Res β
 | .ok v t,f => f v t
 | .bad c a,_ => .bad c a
inductive PE where
 | mk (form op kind n : Int) (name part : ByteArray) (at' : Int) (kids : List PE)
structure PArg where
 name : ByteArray
 out : Bool
 to : ByteArray
 e : PE
 at' : Int
mutual
inductive PS where
 | mk (verb at' : Int) (name : ByteArray) (item : Bool) (es : List PE) (args : List PArg) (arms : List PArm) (els body : List PS) (low high by' times : Int)
inductive PArm where
 | mk (e : PE) (labels : List (Int × Int)) (body : List PS)
end
structure PV where
 name : ByteArray
 role : Int
 kind : Int
 of : ByteArray
 low : Int
 len : Int
 init : PE
 at' : Int
structure PU where
 kind : Int
 name : ByteArray
 result : Int
 vars : List PV
 body : List PS
 at' : Int
def nob : ByteArray := ⟨#[]⟩
def pe0 : PE := .mk 0 0 0 0 nob nob 0 []
def mem (ws : List ByteArray) (t : Tok) : Bool := decide (t.c = 3) && ws.any fun y => decide (t.x = y)
section
variable (F : Int → Tok)
def lookP (t : Tok) : Res Tok := if t.c = 0 then .bad t.f t.a else .ok t t
def takeP (t : Tok) : Res Tok := if t.c = 0 then .bad t.f t.a else .ok t (F t.e)
def isP (ws : List ByteArray) (t : Tok) : Res Bool := if t.c = 0 then .bad t.f t.a else .ok (mem ws t) t
def tookP (ws : List ByteArray) (t : Tok) : Res Bool := if t.c = 0 then .bad t.f t.a else if mem ws t = true then .ok true (F t.e) else .ok false t
def needP (ws : List ByteArray) (t : Tok) : Res Tok := if t.c = 0 then .bad t.f t.a else if mem ws t = true then .ok t (F t.e) else .bad 1 t.a
def clsP (k : Int) (t : Tok) : Res Bool := if t.c = 0 then .bad t.f t.a else .ok (decide (t.c = k)) t
def needC (k : Int) (t : Tok) : Res Tok := if t.c = 0 then .bad t.f t.a else if t.c = k then .ok t (F t.e) else .bad 1 t.a
def numP (sg : Int) (fits : Int → Bool) (t : Tok) : Res Int := (needC F 4 t).bind fun k u => if fits (sg * k.n) = true then .ok (sg * k.n) u else .bad 3 k.a
def constP (fits : Int → Bool) (t : Tok) : Res Int := (tookP F [⟨#[45]⟩] t).bind fun b u => numP F (if b = true then -1 else 1) fits u
def ahead (k : Int) (x : ByteArray) (t : Tok) : Bool := decide ((F t.e).c = k) && decide ((F t.e).x = x)
def litB (t : Tok) : Bool := decide (t.c = 4) || decide (t.c = 5) || mem [⟨#[116,114,117,101]⟩,⟨#[102,97,108,115,101]⟩] t || mem [⟨#[45]⟩] t && ahead F 4 nob t
def nameB (t : Tok) : Bool := decide (t.c = 2) || mem [⟨#[109,97,120]⟩] t && ahead F 3 ⟨#[40]⟩ t
def begB (t : Tok) : Bool := litB F t || nameB F t || mem [⟨#[110,111,116]⟩,⟨#[45]⟩,⟨#[40]⟩] t
def begP (t : Tok) : Res Unit := if t.c = 0 then .bad t.f t.a else if begB F t = true then .ok () t else .bad 1 t.a
def litP (t : Tok) : Res PE :=
 if t.c = 0 then .bad t.f t.a
 else if mem [⟨#[116,114,117,101]⟩,⟨#[102,97,108,115,101]⟩] t = true then .ok (.mk 1 0 1 (if t.x = ⟨#[116,114,117,101]⟩ then 1 else 0) nob nob t.a []) (F t.e)
 else if t.c = 5 then .ok (.mk 1 0 5 t.n nob nob t.a []) (F t.e)
 else (constP F (fun _ => true) t).bind fun n u => .ok (.mk 1 0 0 n nob nob t.a []) u
def opS (x : ByteArray) : Int :=
 if x = ⟨#[38]⟩ then 6 else if x = ⟨#[43]⟩ then 1 else if x = ⟨#[45]⟩ then 2 else if x = ⟨#[42]⟩ then 3 else if x = ⟨#[47]⟩ then 4 else if x = ⟨#[109,111,100]⟩ then 5 else if x = ⟨#[97,110,100]⟩ then 6 else if x = ⟨#[111,114]⟩ then 7 else if x = ⟨#[120,111,114]⟩ then 8 else if x = ⟨#[61]⟩ then 9 else if x = ⟨#[60,62]⟩ then 10 else if x = ⟨#[60]⟩ then 11 else if x = ⟨#[60,61]⟩ then 12 else if x = ⟨#[62]⟩ then 13 else if x = ⟨#[62,61]⟩ then 14 else 0
def lvS (op : Int) : Int :=
 if op = 1 ∨ op = 2 then 6 else if op = 3 ∨ op = 4 ∨ op = 5 then 7 else if op = 6 then 3 else if op = 7 then 1 else if op = 8 then 2 else if op = 9 ∨ op = 10 then 4 else if 11 ≤ op ∧ op ≤ 14 then 5 else 0
def binL (sub : Tok → Res PE) (lv : Int) : Nat → PE → Tok → Res PE
 | 0,_,_ => .bad 99 0
 | n + 1,l,t => if t.c = 0 then .bad t.f t.a else if t.c = 3 ∧ lvS (opS t.x) = lv then (sub (F t.e)).bind fun r u => binL sub lv n (.mk 6 (opS t.x) 0 0 nob nob t.a [l,r]) u else .ok l t
def binP (L : Nat) (un : Tok → Res PE) : Nat → Tok → Res PE
 | 0,t => un t
 | j + 1,t => (binP L un j t).bind fun l u => binL F (binP L un j) (7 - j) L l u
def givL (ex : Tok → Res PE) : Nat → List PE → Tok → Res (List PE)
 | 0,_,_ => .bad 99 0
 | n + 1,l,t => (begP F t).bind fun _ t => if l.length = 8 then .bad 4 t.a else (ex t).bind fun e u => (needP F [⟨#[44]⟩,⟨#[41]⟩] u).bind fun k v => if k.x = ⟨#[44]⟩ then givL ex n (l ++ [e]) v else .ok (l ++ [e]) v
def basP (L : Nat) (ex : Tok → Res PE) (t : Tok) : Res PE :=
 (takeP F t).bind fun k u =>
 if k.x = ⟨#[40]⟩ then (ex u).bind fun e v => (needP F [⟨#[41]⟩] v).bind fun _ v => .ok e v
 else (tookP F [⟨#[91]⟩] u).bind fun b u =>
 if b = true then (ex u).bind fun e v => (needP F [⟨#[93]⟩] v).bind fun _ v => .ok (.mk 3 0 0 0 k.x nob k.a [e]) v
 else (tookP F [⟨#[46]⟩] u).bind fun b u =>
 if b = true then (needC F 2 u).bind fun m v => .ok (.mk 4 0 0 0 k.x m.x k.a []) v
 else (tookP F [⟨#[40]⟩] u).bind fun b u =>
 if b = true then (givL F ex L [] u).bind fun es v => .ok (.mk 7 0 0 0 k.x nob k.a es) v
 else .ok (.mk 2 0 0 0 k.x nob k.a []) u
def unP (L : Nat) : Nat → Tok → Res PE
 | 0,t => (begP F t).bind fun _ t => .bad 8 t.a
 | d + 1,t => (begP F t).bind fun _ t =>
  if litB F t = true then litP F t
  else if mem [⟨#[110,111,116]⟩,⟨#[45]⟩] t = true then (unP L d (F t.e)).bind fun e u => .ok (.mk 5 (if t.x = ⟨#[45]⟩ then 22 else 21) 0 0 nob nob t.a [e]) u
  else basP F L (binP F L (unP L d) 7) t
def exP (L d : Nat) (t : Tok) : Res PE := binP F L (unP F L d) 7 t
def argP (others : Nat) (ex : Tok → Res PE) (t : Tok) : Res PArg :=
 (needC F 2 t).bind fun k u => if others = 16 then .bad 4 k.a else
 (needP F [⟨#[58,61]⟩,⟨#[61,62]⟩] u).bind fun m u => if m.x = ⟨#[61,62]⟩ then (needC F 2 u).bind fun o u => .ok ⟨k.x,true,o.x,pe0,k.a⟩ u
 else (ex u).bind fun e u => .ok ⟨k.x,false,nob,e,k.a⟩ u
def argL (ex : Tok → Res PE) : Nat → List PArg → Tok → Res (List PArg)
 | 0,_,_ => .bad 99 0
 | n + 1,l,t => (argP F l.length ex t).bind fun a u => (needP F [⟨#[44]⟩,⟨#[41]⟩] u).bind fun k v => if k.x = ⟨#[44]⟩ then argL ex n (l ++ [a]) v else .ok (l ++ [a]) v
def argsP (L : Nat) (ex : Tok → Res PE) (t : Tok) : Res (List PArg) := (tookP F [⟨#[41]⟩] t).bind fun b u => if b = true then .ok [] u else argL F ex L [] u
def namP (L : Nat) (ex : Tok → Res PE) (t : Tok) : Res PS :=
 (needC F 2 t).bind fun k u => (needP F [⟨#[58,61]⟩,⟨#[91]⟩,⟨#[40]⟩] u).bind fun m u =>
 if m.x = ⟨#[58,61]⟩ then (ex u).bind fun e v => .ok (.mk 1 0 k.x false [e] [] [] [] [] 0 0 0 0) v
 else if m.x = ⟨#[91]⟩ then (ex u).bind fun i v => (needP F [⟨#[93]⟩] v).bind fun _ v => (needP F [⟨#[58,61]⟩] v).bind fun _ v => (ex v).bind fun e v => .ok (.mk 1 0 k.x true [e,i] [] [] [] [] 0 0 0 0) v
 else (argsP F L ex u).bind fun as v => .ok (.mk 2 0 k.x false [] as [] [] [] 0 0 0 0) v
def choL (ex : Tok → Res PE) (li : Tok → Res (List PS)) : Nat → List PArm → Tok → Res (List PArm × ByteArray)
 | 0,_,_ => .bad 99 0
 | n + 1,l,t => (ex t).bind fun e u => (needP F [⟨#[116,104,101,110]⟩] u).bind fun _ u => (li u).bind fun b u => (needP F [⟨#[101,108,115,105,102]⟩,⟨#[101,108,115,101]⟩,⟨#[101,110,100,95,105,102]⟩] u).bind fun k v =>
  if k.x = ⟨#[101,108,115,105,102]⟩ then choL ex li n (l ++ [.mk e [] b]) v else .ok (l ++ [.mk e [] b],k.x) v
def choP (L : Nat) (ex : Tok → Res PE) (li : Tok → Res (List PS)) (t : Tok) : Res PS :=
 (choL F ex li L [] t).bind fun r u => if r.2 = ⟨#[101,108,115,101]⟩ then (li u).bind fun b v => (needP F [⟨#[101,110,100,95,105,102]⟩] v).bind fun _ v => .ok (.mk 3 0 nob false [] [] r.1 b [] 0 0 0 0) v
 else .ok (.mk 3 0 nob false [] [] r.1 [] [] 0 0 0 0) u
def labL : Nat → List (Int × Int) → Tok → Res (List (Int × Int))
 | 0,_,_ => .bad 99 0
 | n + 1,l,t => (constP F (fun _ => true) t).bind fun x u => (tookP F [⟨#[46,46]⟩] u).bind fun b u =>
  (if b = true then constP F (fun n => decide (x ≤ n)) u else .ok x u).bind fun y u => (needP F [⟨#[44]⟩,⟨#[58]⟩] u).bind fun k v =>
  if k.x = ⟨#[44]⟩ then labL n (l ++ [(x,y)]) v else .ok (l ++ [(x,y)]) v
def casL (L : Nat) (li : Tok → Res (List PS)) : Nat → List PArm → Tok → Res (List PArm)
 | 0,_,_ => .bad 99 0
 | n + 1,l,t => (labL F L [] t).bind fun ls u => (li u).bind fun b u => if u.c = 0 then .bad u.f u.a else if u.c = 4 ∨ mem [⟨#[45]⟩] u = true then casL L li n (l ++ [.mk pe0 ls b]) u else .ok (l ++ [.mk pe0 ls b]) u
def casP (L : Nat) (ex : Tok → Res PE) (li : Tok → Res (List PS)) (t : Tok) : Res PS :=
 (ex t).bind fun e u => (needP F [⟨#[111,102]⟩] u).bind fun _ u => (casL F L li L [] u).bind fun as u => (needP F [⟨#[101,108,115,101]⟩,⟨#[101,110,100,95,99,97,115,101]⟩] u).bind fun k u =>
 if k.x = ⟨#[101,108,115,101]⟩ then (li u).bind fun b v => (needP F [⟨#[101,110,100,95,99,97,115,101]⟩] v).bind fun _ v => .ok (.mk 4 0 nob false [e] [] as b [] 0 0 0 0) v
 else .ok (.mk 4 0 nob false [e] [] as [] [] 0 0 0 0) u
def timB (n : Int) : Bool := decide (1 ≤ n) && decide (n ≤ 10000)
def forP (li : Tok → Res (List PS)) (t : Tok) : Res PS :=
 (needC F 2 t).bind fun k u => (needP F [⟨#[58,61]⟩] u).bind fun _ u => (constP F (fun _ => true) u).bind fun x u => (needP F [⟨#[116,111]⟩] u).bind fun _ u =>
 (constP F (fun n => decide (n - x + 1 ≤ 10000)) u).bind fun y u => (tookP F [⟨#[98,121]⟩] u).bind fun b u => (if b = true then constP F timB u else .ok 1 u).bind fun z u =>
 (needP F [⟨#[100,111]⟩] u).bind fun _ u => (li u).bind fun b u => (needP F [⟨#[101,110,100,95,102,111,114]⟩] u).bind fun _ u => .ok (.mk 5 0 k.x false [] [] [] [] b x y z 0) u
def timP (t : Tok) : Res Int := (needP F [⟨#[109,97,120]⟩] t).bind fun _ u => numP F 1 timB u
def whiP (ex : Tok → Res PE) (li : Tok → Res (List PS)) (t : Tok) : Res PS :=
 (ex t).bind fun e u => (timP F u).bind fun m u => (needP F [⟨#[100,111]⟩] u).bind fun _ u => (li u).bind fun b u => (needP F [⟨#[101,110,100,95,119,104,105,108,101]⟩] u).bind fun _ u => .ok (.mk 6 0 nob false [e] [] [] [] b 0 0 0 m) u
def repP (ex : Tok → Res PE) (li : Tok → Res (List PS)) (t : Tok) : Res PS :=
 (li t).bind fun b u => (needP F [⟨#[117,110,116,105,108]⟩] u).bind fun _ u => (ex u).bind fun e u => (timP F u).bind fun m u => (needP F [⟨#[101,110,100,95,114,101,112,101,97,116]⟩] u).bind fun _ u => .ok (.mk 7 0 nob false [e] [] [] [] b 0 0 0 m) u
def begS (t : Tok) : Bool := decide (t.c = 2) || mem [⟨#[105,102]⟩,⟨#[99,97,115,101]⟩,⟨#[102,111,114]⟩,⟨#[119,104,105,108,101]⟩,⟨#[114,101,112,101,97,116]⟩,⟨#[101,120,105,116]⟩,⟨#[99,111,110,116,105,110,117,101]⟩,⟨#[114,101,116,117,114,110]⟩] t
def PS.set (s : PS) (a : Int) : PS := match s with
 | .mk v _ n i es as ms el b lo hi by' ti => .mk v a n i es as ms el b lo hi by' ti
def ps0 (v : Int) : PS := .mk v 0 nob false [] [] [] [] [] 0 0 0 0
def stmP (L : Nat) (ex : Tok → Res PE) (li : Tok → Res (List PS)) (t : Tok) : Res PS :=
 (if t.c = 0 then .bad t.f t.a
 else if t.c = 2 then namP F L ex t
 else if mem [⟨#[105,102]⟩] t = true then choP F L ex li (F t.e)
 else if mem [⟨#[99,97,115,101]⟩] t = true then casP F L ex li (F t.e)
 else if mem [⟨#[102,111,114]⟩] t = true then forP F li (F t.e)
 else if mem [⟨#[119,104,105,108,101]⟩] t = true then whiP F ex li (F t.e)
 else if mem [⟨#[114,101,112,101,97,116]⟩] t = true then repP F ex li (F t.e)
 else if mem [⟨#[101,120,105,116]⟩] t = true then .ok (ps0 8) (F t.e)
 else if mem [⟨#[99,111,110,116,105,110,117,101]⟩] t = true then .ok (ps0 9) (F t.e)
 else if mem [⟨#[114,101,116,117,114,110]⟩] t = true then .ok (ps0 10) (F t.e)
 else .ok (ps0 0) t : Res PS).bind fun s u => (needP F [⟨#[59]⟩] u).bind fun _ v => .ok (s.set t.a) v
def lisL (st : Tok → Res PS) : Nat → List PS → Tok → Res (List PS)
 | 0,_,_ => .bad 99 0
 | n + 1,l,t => if t.c = 0 then .bad t.f t.a else if begS t = true then (st t).bind fun s u => lisL st n (l ++ [s]) u else .ok l t
def lisP (L : Nat) : Nat → Tok → Res (List PS)
 | 0,t => if t.c = 0 then .bad t.f t.a else if begS t = true then .bad 8 t.a else .ok [] t
 | d + 1,t => lisL (stmP F L (exP F L d) (lisP L d)) L [] t
def kinS (x : ByteArray) : Int := if x = ⟨#[98,111,111,108]⟩ then 1 else if x = ⟨#[105,110,116]⟩ then 2 else if x = ⟨#[100,105,110,116]⟩ then 3 else if x = ⟨#[119,111,114,100]⟩ then 4 else if x = ⟨#[116,105,109,101]⟩ then 5 else 0
def kinP (t : Tok) : Res Int := (needP F [⟨#[98,111,111,108]⟩,⟨#[105,110,116]⟩,⟨#[100,105,110,116]⟩,⟨#[119,111,114,100]⟩,⟨#[116,105,109,101]⟩] t).bind fun k u => .ok (kinS k.x) u
def lenB (n : Int) : Bool := decide (1 ≤ n) && decide (n ≤ 1000)
def pv0 : PV := ⟨nob,0,0,nob,0,0,pe0,0⟩
def typP (t : Tok) : Res PV :=
 if t.c = 0 then .bad t.f t.a
 else if t.c = 2 then .ok { pv0 with of := t.x } (F t.e)
 else if mem [⟨#[97,114,114,97,121]⟩] t = true then
  (needP F [⟨#[91]⟩] (F t.e)).bind fun _ u => (constP F (fun _ => true) u).bind fun x u => (needP F [⟨#[46,46]⟩] u).bind fun _ u => (constP F (fun n => lenB (n - x + 1)) u).bind fun y u =>
  (needP F [⟨#[93]⟩] u).bind fun _ u => (needP F [⟨#[111,102]⟩] u).bind fun _ u => (kinP F u).bind fun k u => .ok { pv0 with kind := k,low := x,len := y - x + 1 } u
 else (kinP F t).bind fun k u => .ok { pv0 with kind := k } u
def decL (role : Int) : Nat → List PV → Tok → Res (List PV)
 | 0,_,_ => .bad 99 0
 | n + 1,l,t => (needC F 2 t).bind fun k u => if l.length = 200 then .bad 4 k.a else
  (tookP F [⟨#[44]⟩] u).bind fun b u => if b = true then decL role n (l ++ [{ pv0 with name := k.x,role := role,at' := k.a }]) u else .ok (l ++ [{ pv0 with name := k.x,role := role,at' := k.a }]) u
def PV.like (v y : PV) : PV := { v with kind := y.kind,of := y.of,low := y.low,len := y.len,init := y.init }
def decP (L : Nat) (vs : List PV) (role : Int) (t : Tok) : Res (List PV) :=
 (decL F role L vs t).bind fun l u => (needP F [⟨#[58]⟩] u).bind fun _ u => (typP F u).bind fun y u => (tookP F [⟨#[58,61]⟩] u).bind fun b u =>
 (if b = true then (litP F u).bind fun e u => .ok { y with init := e } u else .ok y u).bind fun y u => (needP F [⟨#[59]⟩] u).bind fun _ u => .ok (l.take vs.length ++ (l.drop vs.length).map (·.like y)) u
def decsL (L : Nat) (role : Int) : Nat → List PV → Tok → Res (List PV)
 | 0,_,_ => .bad 99 0
 | n + 1,l,t => if t.c = 0 then .bad t.f t.a else if t.c = 2 then (decP F L l role t).bind fun l u => decsL L role n l u else .ok l t
def rolS (x : ByteArray) : Int := if x = ⟨#[118,97,114]⟩ then 1 else if x = ⟨#[118,97,114,95,105,110,112,117,116]⟩ then 2 else if x = ⟨#[118,97,114,95,111,117,116,112,117,116]⟩ then 3 else if x = ⟨#[118,97,114,95,101,120,116,101,114,110,97,108]⟩ then 4 else 0
def rolP (t : Tok) : Res Int := (takeP F t).bind fun k u => if rolS k.x = 1 then (tookP F [⟨#[114,101,116,97,105,110]⟩] u).bind fun b u => .ok (if b = true then 5 else 1) u else .ok (rolS k.x) u
def heaL (L : Nat) : Nat → List PV → Tok → Res (List PV)
 | 0,_,_ => .bad 99 0
 | n + 1,l,t => if t.c = 0 then .bad t.f t.a else if mem [⟨#[118,97,114]⟩,⟨#[118,97,114,95,105,110,112,117,116]⟩,⟨#[118,97,114,95,111,117,116,112,117,116]⟩,⟨#[118,97,114,95,101,120,116,101,114,110,97,108]⟩] t = true then
  (rolP F t).bind fun r u => (decsL F L r L l u).bind fun l u => (needP F [⟨#[101,110,100,95,118,97,114]⟩] u).bind fun _ u => heaL L n l u else .ok l t
def heaP (L : Nat) (t : Tok) : Res (List PV) := heaL F L L [] t
def uniS (x : ByteArray) : Int := if x = ⟨#[112,114,111,103,114,97,109]⟩ then 1 else if x = ⟨#[102,117,110,99,116,105,111,110]⟩ then 2 else if x = ⟨#[102,117,110,99,116,105,111,110,95,98,108,111,99,107]⟩ then 3 else 0
def uniP (L : Nat) (whole : Nat) (t : Tok) : Res PU :=
 (needP F [⟨#[112,114,111,103,114,97,109]⟩,⟨#[102,117,110,99,116,105,111,110]⟩,⟨#[102,117,110,99,116,105,111,110,95,98,108,111,99,107]⟩] t).bind fun k u => if whole = 16 then .bad 4 k.a else
 (needC F 2 u).bind fun m u => (if uniS k.x = 2 then (needP F [⟨#[58]⟩] u).bind fun _ u => kinP F u else .ok 0 u).bind fun r u =>
 (heaP F L u).bind fun vs u => (lisP F L 40 u).bind fun b u => (needP F [⟨#[101,110,100,95]⟩ ++ k.x] u).bind fun _ u => .ok ⟨uniS k.x,m.x,r,vs,b,k.a⟩ u
def texL (L : Nat) : Nat → List PU → Tok → List PU × Int × Int × Int
 | 0,_,_ => ([],99,0,0)
 | n + 1,l,t => match uniP F L l.length t with
  | .bad c a => ([],c,l.length,a)
  | .ok p u => if u.c = 0 then ([],u.f,(l.length : Int) + 1,u.a) else if u.c = 1 then (l ++ [p],0,0,0) else texL L n (l ++ [p]) u
end
end Go.Proofs.YtdcoidmbainkmaaGreatDoor

namespace Go.Proofs.YtdcoidmbainkmaaGreatDoor
set_option linter.unusedSectionVars false
def TokOk (N : Nat) (t : Tok) : Prop := 0 ≤ t.a ∧ t.a ≤ N ∧ (t.c ≠ 0 → t.a ≤ t.e ∧ t.e ≤ N ∧ (t.c ≠ 1 → t.a < t.e)) ∧ 0 ≤ t.n ∧ t.n ≤ 4294967295
def GoodF (N : Nat) (F : Int → Tok) : Prop := ∀ i : Int,0 ≤ i → i ≤ N → TokOk N (F i) ∧ i ≤ (F i).a
def Adv {α : Type} (N : Nat) (k : Int) (p : Tok → Res α) : Prop := ∀ t v u,TokOk N t → p t = .ok v u → TokOk N u ∧ t.a + k ≤ u.a
theorem bind_ok {α β : Type} {r : Res α} {f : α → Tok → Res β} {v : β} {u : Tok} (h : r.bind f = .ok v u) : ∃ x y,r = .ok x y ∧ f x y = .ok v u := by
 cases r with
 | ok x y => exact ⟨x,y,rfl,h⟩
 | bad c a => exact absurd h (by simp [Res.bind])
theorem Adv.bind {α β : Type} {N : Nat} {k j : Int} {p : Tok → Res α} {f : α → Tok → Res β} (hp : Adv N k p) (hf : ∀ v,Adv N j (f v)) : Adv N (k + j) (fun t => (p t).bind f) := by
 intro t v u ht h
 obtain ⟨x,y,h1,h2⟩ := bind_ok h
 have a := hp t x y ht h1
 have b := hf x y v u a.1 h2
 exact ⟨b.1,by have := a.2; have := b.2; omega⟩
theorem Adv.low {α : Type} {N : Nat} {k j : Int} {p : Tok → Res α} (hp : Adv N k p) (h : j ≤ k) : Adv N j p := fun t v u ht e => ⟨(hp t v u ht e).1,by have := (hp t v u ht e).2; omega⟩
theorem Adv.ok {α : Type} {N : Nat} (x : α) : Adv N 0 (fun t => .ok x t) := by
 intro t v u ht h; injection h with h1 h2; subst h2; exact ⟨ht,by omega⟩
theorem Adv.bad {α : Type} {N : Nat} {k : Int} (c : Tok → Int) (a : Tok → Int) : Adv (α := α) N k (fun t => .bad (c t) (a t)) := by
 intro t v u ht h; cases h
theorem Adv.cond {α : Type} {N : Nat} {k : Int} {p q : Tok → Res α} (b : Tok → Prop) [∀ t,Decidable (b t)] (hp : Adv N k p) (hq : Adv N k q) : Adv N k (fun t => if b t then p t else q t) := by
 intro t v u ht h
 by_cases hb : b t
 · simp only [hb,if_true] at h; exact hp t v u ht h
 · simp only [hb,if_false] at h; exact hq t v u ht h
section
variable {F : Int → Tok} {N : Nat} (hF : GoodF N F)
include hF
theorem next_ok {t : Tok} (ht : TokOk N t) (h0 : t.c ≠ 0) : TokOk N (F t.e) ∧ t.a ≤ (F t.e).a ∧ (t.c ≠ 1 → t.a + 1 ≤ (F t.e).a) := by
 obtain ⟨h1,h2,h3,_⟩ := ht
 obtain ⟨h4,h5,h6⟩ := h3 h0
 obtain ⟨h7,h8⟩ := hF t.e (by omega) (by omega)
 exact ⟨h7,by omega,fun h => by have := h6 h; omega⟩
theorem mem_c {ws : List ByteArray} {t : Tok} (h : mem ws t = true) : t.c = 3 := by
 simp [mem] at h; exact h.1
theorem need_adv (ws : List ByteArray) : Adv N 1 (needP F ws) := by
 intro t v u ht h
 simp only [needP] at h
 split at h
 · cases h
 · split at h
   · rename_i h0 hm
     injection h with h1 h2; subst h1 h2
     have := next_ok hF ht h0
     have hc := mem_c hF hm
     exact ⟨this.1,this.2.2 (by omega)⟩
   · cases h
theorem need_val {ws : List ByteArray} {t v u : Tok} (h : needP F ws t = .ok v u) : v = t ∧ u = F t.e ∧ t.c = 3 ∧ v.x ∈ ws := by
 simp only [needP] at h
 split at h
 · cases h
 · split at h
   · rename_i h0 hm
     injection h with h1 h2
     simp [mem] at hm
     exact ⟨h1.symm,h2.symm,hm.1,h1 ▸ hm.2⟩
   · cases h
theorem needC_adv (k : Int) (hk : k ≠ 1) : Adv N 1 (needC F k) := by
 intro t v u ht h
 simp only [needC] at h
 split at h
 · cases h
 · split at h
   · rename_i h0 hm
     injection h with h1 h2; subst h1 h2
     have := next_ok hF ht h0
     exact ⟨this.1,this.2.2 (by omega)⟩
   · cases h
theorem took_adv (ws : List ByteArray) : Adv N 0 (tookP F ws) := by
 intro t v u ht h
 simp only [tookP] at h
 split at h
 · cases h
 · split at h
   · rename_i h0 hm
     injection h with h1 h2; subst h1 h2
     have := next_ok hF ht h0
     exact ⟨this.1,by have := this.2.1; omega⟩
   · injection h with h1 h2; subst h1 h2; exact ⟨ht,by omega⟩
theorem num_adv (sg : Int) (fits : Int → Bool) : Adv N 1 (numP F sg fits) := by
 refine Adv.low (Adv.bind (needC_adv hF 4 (by omega)) (j := 0) fun k => ?_) (by omega)
 exact Adv.cond (fun _ => fits (sg * k.n) = true) (Adv.ok _) (Adv.bad (fun _ => 3) (fun _ => k.a))
theorem const_adv (fits : Int → Bool) : Adv N 1 (constP F fits) :=
 Adv.low (Adv.bind (took_adv hF _) (j := 1) fun b => num_adv hF _ _) (by omega)
theorem num_bd {sg : Int} {fits : Int → Bool} {t u : Tok} {x : Int} (ht : TokOk N t) (hs : sg = 1 ∨ sg = -1) (h : numP F sg fits t = .ok x u) : -4294967295 ≤ x ∧ x ≤ 4294967295 ∧ fits x = true := by
 obtain ⟨k,v,h1,h2⟩ := bind_ok h
 simp only [needC] at h1
 split at h1
 · cases h1
 · split at h1
   · injection h1 with h3 h4; subst h3
     split at h2
     · rename_i hf
       injection h2 with h5 h6; subst h5
       obtain ⟨_,_,_,h7,h8⟩ := ht
       rcases hs with rfl | rfl <;> exact ⟨by omega,by omega,hf⟩
     · cases h2
   · cases h1
theorem const_bd {fits : Int → Bool} {t u : Tok} {x : Int} (ht : TokOk N t) (h : constP F fits t = .ok x u) : -4294967295 ≤ x ∧ x ≤ 4294967295 ∧ fits x = true := by
 obtain ⟨b,v,h1,h2⟩ := bind_ok h
 exact num_bd hF ((took_adv hF _) t b v ht h1).1 (by split <;> simp) h2
theorem lit_adv : Adv N 1 (litP F) := by
 intro t v u ht h
 simp only [litP] at h
 split at h
 · cases h
 · split at h
   · rename_i h0 hm
     injection h with h1 h2; subst h2
     have := next_ok hF ht h0
     have hc := mem_c hF hm
     exact ⟨this.1,this.2.2 (by omega)⟩
   · split at h
     · rename_i h0 hm h5
       injection h with h1 h2; subst h2
       have := next_ok hF ht h0
       exact ⟨this.1,this.2.2 (by omega)⟩
     · obtain ⟨x,y,h1,h2⟩ := bind_ok h
       injection h2 with h3 h4; subst h4
       exact (const_adv hF _) t x y ht h1
theorem beg_adv : Adv N 0 (begP F) := by
 intro t v u ht h
 simp only [begP] at h
 split at h
 · cases h
 · split at h
   · injection h with h1 h2; subst h2; exact ⟨ht,by omega⟩
   · cases h
theorem binL_adv {sub : Tok → Res PE} (hs : Adv N 1 sub) (lv : Int) : ∀ (n : Nat) (l : PE),Adv N 0 (binL F sub lv n l) := by
 intro n
 induction n with
 | zero => intro l; exact Adv.bad (fun _ => 99) (fun _ => 0)
 | succ n ih =>
  intro l t v u ht h
  simp only [binL] at h
  split at h
  · cases h
  · split at h
    · rename_i h0 hm
      obtain ⟨r,y,h1,h2⟩ := bind_ok h
      have a := next_ok hF ht h0
      have b := hs _ _ _ a.1 h1
      have c := ih _ _ _ _ b.1 h2
      exact ⟨c.1,by have := a.2.1; have := b.2; have := c.2; omega⟩
    · injection h with h1 h2; subst h2; exact ⟨ht,by omega⟩
theorem binP_adv (L : Nat) {un : Tok → Res PE} (hu : Adv N 1 un) : ∀ j,Adv N 1 (binP F L un j) := by
 intro j
 induction j with
 | zero => exact hu
 | succ j ih => exact Adv.low (Adv.bind ih (j := 0) fun l => binL_adv hF ih _ L l) (by omega)
theorem givL_adv {ex : Tok → Res PE} (he : Adv N 1 ex) : ∀ (n : Nat) (l : List PE),Adv N 1 (givL F ex n l) := by
 intro n
 induction n with
 | zero => intro l; exact Adv.bad (fun _ => 99) (fun _ => 0)
 | succ n ih =>
  intro l
  refine Adv.low (Adv.bind (beg_adv hF) (j := 1) fun _ => ?_) (by omega)
  refine Adv.cond (fun _ => l.length = 8) (Adv.bad (fun _ => 4) (fun t => t.a)) ?_
  refine Adv.low (Adv.bind he (j := 0) fun e => Adv.low (Adv.bind (need_adv hF _) (j := 0) fun k => ?_) (by omega)) (by omega)
  exact Adv.cond (fun _ => k.x = _) (Adv.low (ih _) (by omega)) (Adv.ok _)
theorem take_adv0 : Adv N 0 (takeP F) := by
 intro t v u ht h
 simp only [takeP] at h
 split at h
 · cases h
 · rename_i h0
   injection h with h1 h2; subst h2
   have := next_ok hF ht h0
   exact ⟨this.1,by have := this.2.1; omega⟩
theorem bas_adv {L : Nat} {ex : Tok → Res PE} (he : Adv N 1 ex) {t u : Tok} {v : PE} (ht : TokOk N t) (hc : t.c ≠ 1) (h : basP F L ex t = .ok v u) : TokOk N u ∧ t.a + 1 ≤ u.a := by
 obtain ⟨k,y,h1,h2⟩ := bind_ok h
 simp only [takeP] at h1
 split at h1
 · cases h1
 rename_i h0
 injection h1 with h3 h4
 have a := next_ok hF ht h0
 rw [h4] at a
 have key : Adv N 0 (fun u => if k.x = ⟨#[40]⟩ then (ex u).bind fun e v => (needP F [⟨#[41]⟩] v).bind fun _ v => .ok e v
  else (tookP F [⟨#[91]⟩] u).bind fun b u =>
  if b = true then (ex u).bind fun e v => (needP F [⟨#[93]⟩] v).bind fun _ v => .ok (.mk 3 0 0 0 k.x nob k.a [e]) v
  else (tookP F [⟨#[46]⟩] u).bind fun b u =>
  if b = true then (needC F 2 u).bind fun m v => .ok (.mk 4 0 0 0 k.x m.x k.a []) v
  else (tookP F [⟨#[40]⟩] u).bind fun b u =>
  if b = true then (givL F ex L [] u).bind fun es v => .ok (.mk 7 0 0 0 k.x nob k.a es) v
  else .ok (.mk 2 0 0 0 k.x nob k.a []) u) := by
  refine Adv.cond (fun _ => k.x = _) (Adv.low (Adv.bind he (j := 0) fun e => Adv.low (Adv.bind (need_adv hF _) (j := 0) fun _ => Adv.ok _) (by omega)) (by omega)) ?_
  refine Adv.low (Adv.bind (took_adv hF _) (j := 0) fun b => ?_) (by omega)
  refine Adv.cond (fun _ => b = true) (Adv.low (Adv.bind he (j := 0) fun e => Adv.low (Adv.bind (need_adv hF _) (j := 0) fun _ => Adv.ok _) (by omega)) (by omega)) ?_
  refine Adv.low (Adv.bind (took_adv hF _) (j := 0) fun b => ?_) (by omega)
  refine Adv.cond (fun _ => b = true) (Adv.low (Adv.bind (needC_adv hF 2 (by omega)) (j := 0) fun e => Adv.ok _) (by omega)) ?_
  refine Adv.low (Adv.bind (took_adv hF _) (j := 0) fun b => ?_) (by omega)
  exact Adv.cond (fun _ => b = true) (Adv.low (Adv.bind (givL_adv hF he L []) (j := 0) fun e => Adv.ok _) (by omega)) (Adv.ok _)
 have b := key y v u a.1 h2
 exact ⟨b.1,by have := a.2.2 hc; have := b.2; omega⟩
theorem beg_c {t : Tok} (h : begB F t = true) : t.c ≠ 1 := by
 intro hc
 simp [begB,litB,nameB,mem,hc] at h
theorem un_adv (L : Nat) : ∀ d,Adv N 1 (unP F L d) := by
 intro d
 induction d with
 | zero => exact Adv.low (Adv.bind (beg_adv hF) (j := 1) fun _ => Adv.bad (fun _ => 8) (fun t => t.a)) (by omega)
 | succ d ih =>
  intro t v u ht h
  simp only [unP] at h
  obtain ⟨x,y,h1,h2⟩ := bind_ok h
  simp only [begP] at h1
  split at h1
  · cases h1
  split at h1
  · rename_i h0 hb
    injection h1 with h3 h4; subst h4
    have hc := beg_c hF hb
    split at h2
    · exact (lit_adv hF) t v u ht h2
    · split at h2
      · obtain ⟨e,z,h5,h6⟩ := bind_ok h2
        injection h6 with h7 h8; subst h8
        have a := next_ok hF ht h0
        have b := ih _ _ _ a.1 h5
        exact ⟨b.1,by have := a.2.1; have := b.2; omega⟩
      · exact bas_adv hF (binP_adv hF L ih 7) ht hc h2
  · cases h1
theorem ex_adv (L d : Nat) : Adv N 1 (exP F L d) := binP_adv hF L (un_adv hF L d) 7
end
end Go.Proofs.YtdcoidmbainkmaaGreatDoor

namespace Go.Proofs.YtdcoidmbainkmaaGreatDoor
set_option linter.unusedSectionVars false
section
variable {F : Int → Tok} {N : Nat} (hF : GoodF N F)
include hF
theorem arg_adv (m : Nat) {ex : Tok → Res PE} (he : Adv N 1 ex) : Adv N 1 (argP F m ex) := Adv.low (Adv.bind (needC_adv hF 2 (by omega)) (j := 0) fun _ => Adv.cond (fun _ => _) (Adv.bad (fun _ => 4) (fun _ => _)) (Adv.low (Adv.bind (need_adv hF _) (j := 0) fun _ => Adv.cond (fun _ => _) (Adv.low (Adv.bind (needC_adv hF 2 (by omega)) (j := 0) fun _ => Adv.ok _) (by omega)) (Adv.low (Adv.bind (he) (j := 0) fun _ => Adv.ok _) (by omega))) (by omega))) (by omega)
theorem argL_adv {ex : Tok → Res PE} (he : Adv N 1 ex) : ∀ (n : Nat) (l : List PArg),Adv N 1 (argL F ex n l) := by
 intro n
 induction n with
 | zero => intro l; exact Adv.bad (fun _ => 99) (fun _ => 0)
 | succ n ih => intro l; exact Adv.low (Adv.bind (arg_adv hF _ he) (j := 0) fun _ => Adv.low (Adv.bind (need_adv hF _) (j := 0) fun _ => Adv.cond (fun _ => _) (Adv.low (ih _) (by omega)) (Adv.ok _)) (by omega)) (by omega)
theorem args_adv (L : Nat) {ex : Tok → Res PE} (he : Adv N 1 ex) : Adv N 0 (argsP F L ex) := Adv.low (Adv.bind (took_adv hF _) (j := 0) fun _ => Adv.cond (fun _ => _) (Adv.ok _) (Adv.low (argL_adv hF he L []) (by omega))) (by omega)
theorem nam_adv (L : Nat) {ex : Tok → Res PE} (he : Adv N 1 ex) : Adv N 1 (namP F L ex) := Adv.low (Adv.bind (needC_adv hF 2 (by omega)) (j := 0) fun _ => Adv.low (Adv.bind (need_adv hF _) (j := 0) fun _ => Adv.cond (fun _ => _) (Adv.low (Adv.bind (he) (j := 0) fun _ => Adv.ok _) (by omega)) (Adv.cond (fun _ => _) (Adv.low (Adv.bind (he) (j := 0) fun _ => Adv.low (Adv.bind (need_adv hF _) (j := 0) fun _ => Adv.low (Adv.bind (need_adv hF _) (j := 0) fun _ => Adv.low (Adv.bind (he) (j := 0) fun _ => Adv.ok _) (by omega)) (by omega)) (by omega)) (by omega)) (Adv.low (Adv.bind (args_adv hF L he) (j := 0) fun _ => Adv.ok _) (by omega)))) (by omega)) (by omega)
theorem choL_adv {ex : Tok → Res PE} {li : Tok → Res (List PS)} (he : Adv N 1 ex) (hl : Adv N 0 li) : ∀ (n : Nat) (l : List PArm),Adv N 1 (choL F ex li n l) := by
 intro n
 induction n with
 | zero => intro l; exact Adv.bad (fun _ => 99) (fun _ => 0)
 | succ n ih => intro l; exact Adv.low (Adv.bind (he) (j := 0) fun _ => Adv.low (Adv.bind (need_adv hF _) (j := 0) fun _ => Adv.low (Adv.bind (hl) (j := 0) fun _ => Adv.low (Adv.bind (need_adv hF _) (j := 0) fun _ => Adv.cond (fun _ => _) (Adv.low (ih _) (by omega)) (Adv.ok _)) (by omega)) (by omega)) (by omega)) (by omega)
theorem cho_adv (L : Nat) {ex : Tok → Res PE} {li : Tok → Res (List PS)} (he : Adv N 1 ex) (hl : Adv N 0 li) : Adv N 1 (choP F L ex li) := Adv.low (Adv.bind (choL_adv hF he hl L []) (j := 0) fun _ => Adv.cond (fun _ => _) (Adv.low (Adv.bind (hl) (j := 0) fun _ => Adv.low (Adv.bind (need_adv hF _) (j := 0) fun _ => Adv.ok _) (by omega)) (by omega)) (Adv.ok _)) (by omega)
theorem labL_adv : ∀ (n : Nat) (l : List (Int × Int)),Adv N 1 (labL F n l) := by
 intro n
 induction n with
 | zero => intro l; exact Adv.bad (fun _ => 99) (fun _ => 0)
 | succ n ih => intro l; exact Adv.low (Adv.bind (const_adv hF _) (j := 0) fun _ => Adv.low (Adv.bind (took_adv hF _) (j := 0) fun _ => Adv.low (Adv.bind ((Adv.cond (k := 0) (fun _ => _) (Adv.low (j := 0) (const_adv hF _) (by omega)) (Adv.ok _))) (j := 0) fun _ => Adv.low (Adv.bind (need_adv hF _) (j := 0) fun _ => Adv.cond (fun _ => _) (Adv.low (ih _) (by omega)) (Adv.ok _)) (by omega)) (by omega)) (by omega)) (by omega)
theorem casL_adv (L : Nat) {li : Tok → Res (List PS)} (hl : Adv N 0 li) : ∀ (n : Nat) (l : List PArm),Adv N 1 (casL F L li n l) := by
 intro n
 induction n with
 | zero => intro l; exact Adv.bad (fun _ => 99) (fun _ => 0)
 | succ n ih => intro l; exact Adv.low (Adv.bind (labL_adv hF L []) (j := 0) fun _ => Adv.low (Adv.bind (hl) (j := 0) fun _ => Adv.cond (fun t => t.c = 0) (Adv.bad (fun t => t.f) (fun t => t.a)) (Adv.cond (fun t => t.c = 4 ∨ mem _ t = true) (Adv.low (ih _) (by omega)) (Adv.ok _))) (by omega)) (by omega)
theorem cas_adv (L : Nat) {ex : Tok → Res PE} {li : Tok → Res (List PS)} (he : Adv N 1 ex) (hl : Adv N 0 li) : Adv N 1 (casP F L ex li) := Adv.low (Adv.bind (he) (j := 0) fun _ => Adv.low (Adv.bind (need_adv hF _) (j := 0) fun _ => Adv.low (Adv.bind (casL_adv hF L hl L []) (j := 0) fun _ => Adv.low (Adv.bind (need_adv hF _) (j := 0) fun _ => Adv.cond (fun _ => _) (Adv.low (Adv.bind (hl) (j := 0) fun _ => Adv.low (Adv.bind (need_adv hF _) (j := 0) fun _ => Adv.ok _) (by omega)) (by omega)) (Adv.ok _)) (by omega)) (by omega)) (by omega)) (by omega)
theorem for_adv {li : Tok → Res (List PS)} (hl : Adv N 0 li) : Adv N 1 (forP F li) := Adv.low (Adv.bind (needC_adv hF 2 (by omega)) (j := 0) fun _ => Adv.low (Adv.bind (need_adv hF _) (j := 0) fun _ => Adv.low (Adv.bind (const_adv hF _) (j := 0) fun _ => Adv.low (Adv.bind (need_adv hF _) (j := 0) fun _ => Adv.low (Adv.bind (const_adv hF _) (j := 0) fun _ => Adv.low (Adv.bind (took_adv hF _) (j := 0) fun _ => Adv.low (Adv.bind ((Adv.cond (k := 0) (fun _ => _) (Adv.low (j := 0) (const_adv hF _) (by omega)) (Adv.ok _))) (j := 0) fun _ => Adv.low (Adv.bind (need_adv hF _) (j := 0) fun _ => Adv.low (Adv.bind (hl) (j := 0) fun _ => Adv.low (Adv.bind (need_adv hF _) (j := 0) fun _ => Adv.ok _) (by omega)) (by omega)) (by omega)) (by omega)) (by omega)) (by omega)) (by omega)) (by omega)) (by omega)) (by omega)
theorem tim_adv : Adv N 1 (timP F) := Adv.low (Adv.bind (need_adv hF _) (j := 0) fun _ => Adv.low (num_adv hF _ _) (by omega)) (by omega)
theorem whi_adv {ex : Tok → Res PE} {li : Tok → Res (List PS)} (he : Adv N 1 ex) (hl : Adv N 0 li) : Adv N 1 (whiP F ex li) := Adv.low (Adv.bind (he) (j := 0) fun _ => Adv.low (Adv.bind (tim_adv hF) (j := 0) fun _ => Adv.low (Adv.bind (need_adv hF _) (j := 0) fun _ => Adv.low (Adv.bind (hl) (j := 0) fun _ => Adv.low (Adv.bind (need_adv hF _) (j := 0) fun _ => Adv.ok _) (by omega)) (by omega)) (by omega)) (by omega)) (by omega)
theorem rep_adv {ex : Tok → Res PE} {li : Tok → Res (List PS)} (he : Adv N 1 ex) (hl : Adv N 0 li) : Adv N 1 (repP F ex li) := Adv.low (Adv.bind hl (j := 1) fun _ => Adv.low (Adv.bind (need_adv hF _) (j := 0) fun _ => Adv.low (Adv.bind (he) (j := 0) fun _ => Adv.low (Adv.bind (tim_adv hF) (j := 0) fun _ => Adv.low (Adv.bind (need_adv hF _) (j := 0) fun _ => Adv.ok _) (by omega)) (by omega)) (by omega)) (by omega)) (by omega)
theorem bind_adv {α β : Type} {r : Res α} {f : α → Tok → Res β} {t u : Tok} {v : β} {k j : Int} (hr : ∀ x y,r = .ok x y → TokOk N y ∧ t.a + k ≤ y.a) (hf : ∀ x,Adv N j (f x)) (h : r.bind f = .ok v u) : TokOk N u ∧ t.a + (k + j) ≤ u.a := by
 obtain ⟨x,y,h1,h2⟩ := bind_ok h
 have a := hr x y h1
 have b := hf x y v u a.1 h2
 exact ⟨b.1,by have := a.2; have := b.2; omega⟩
theorem at_adv {α : Type} {p : Tok → Res α} {k : Int} (hp : Adv N k p) {t u : Tok} {v : α} (ht : TokOk N t) (h0 : t.c ≠ 0) (h : p (F t.e) = .ok v u) : TokOk N u ∧ t.a + k ≤ u.a := by
 have a := next_ok hF ht h0
 have b := hp _ _ _ a.1 h
 exact ⟨b.1,by have := a.2.1; have := b.2; omega⟩
theorem stm_adv (L : Nat) {ex : Tok → Res PE} {li : Tok → Res (List PS)} (he : Adv N 1 ex) (hl : Adv N 0 li) : Adv N 1 (stmP F L ex li) := by
 intro t v u ht h
 have := bind_adv hF (t := t) (k := 0) (j := 1) ?_ (fun x => Adv.low (Adv.bind (need_adv hF _) (j := 0) fun _ => Adv.ok _) (by omega)) h
 · exact ⟨this.1,by have := this.2; omega⟩
 · intro x y h
   have one : ∀ {z : PS},t.c ≠ 0 → (Res.ok z (F t.e) : Res PS) = .ok x y → TokOk N y ∧ t.a + 0 ≤ y.a := by
    intro z h0 h
    injection h with h1 h2; subst h2
    have a := next_ok hF ht h0
    exact ⟨a.1,by have := a.2.1; omega⟩
   split at h
   · cases h
   rename_i h0
   split at h
   · exact (Adv.low (nam_adv hF L he) (by omega)) t x y ht h
   split at h
   · exact at_adv hF (Adv.low (cho_adv hF L he hl) (by omega)) ht h0 h
   split at h
   · exact at_adv hF (Adv.low (cas_adv hF L he hl) (by omega)) ht h0 h
   split at h
   · exact at_adv hF (Adv.low (for_adv hF hl) (by omega)) ht h0 h
   split at h
   · exact at_adv hF (Adv.low (whi_adv hF he hl) (by omega)) ht h0 h
   split at h
   · exact at_adv hF (Adv.low (rep_adv hF he hl) (by omega)) ht h0 h
   split at h
   · exact one h0 h
   split at h
   · exact one h0 h
   split at h
   · exact one h0 h
   injection h with h1 h2; subst h2; exact ⟨ht,by omega⟩
theorem lisL_adv {st : Tok → Res PS} (hs : Adv N 1 st) : ∀ (n : Nat) (l : List PS),Adv N 0 (lisL st n l) := by
 intro n
 induction n with
 | zero => intro l; exact Adv.bad (fun _ => 99) (fun _ => 0)
 | succ n ih => intro l; exact Adv.cond (fun t => t.c = 0) (Adv.bad (fun t => t.f) (fun t => t.a)) (Adv.cond (fun t => begS t = true) (Adv.low (Adv.bind hs (j := 0) fun s => ih _) (by omega)) (Adv.ok _))
theorem lis_adv (L : Nat) : ∀ d,Adv N 0 (lisP F L d) := by
 intro d
 induction d with
 | zero => exact Adv.cond (fun t => t.c = 0) (Adv.bad (fun t => t.f) (fun t => t.a)) (Adv.cond (fun t => begS t = true) (Adv.bad (fun _ => 8) (fun t => t.a)) (Adv.ok _))
 | succ d ih => exact lisL_adv hF (stm_adv hF L (ex_adv hF L d) ih) L []
theorem kin_adv : Adv N 1 (kinP F) := Adv.low (Adv.bind (need_adv hF _) (j := 0) fun _ => Adv.ok _) (by omega)
theorem typ_adv : Adv N 1 (typP F) := by
 intro t v u ht h
 simp only [typP] at h
 split at h
 · cases h
 rename_i h0
 split at h
 · injection h with h1 h2; subst h2
   have a := next_ok hF ht h0
   exact ⟨a.1,a.2.2 (by omega)⟩
 split at h
 · exact at_adv hF (p := fun t => (needP F _ t).bind _) (Adv.low (Adv.bind (need_adv hF _) (j := 0) fun _ => Adv.low (Adv.bind (const_adv hF _) (j := 0) fun _ => Adv.low (Adv.bind (need_adv hF _) (j := 0) fun _ => Adv.low (Adv.bind (const_adv hF _) (j := 0) fun _ => Adv.low (Adv.bind (need_adv hF _) (j := 0) fun _ => Adv.low (Adv.bind (need_adv hF _) (j := 0) fun _ => Adv.low (Adv.bind (kin_adv hF) (j := 0) fun _ => Adv.ok _) (by omega)) (by omega)) (by omega)) (by omega)) (by omega)) (by omega)) (by omega)) ht h0 h
 · exact (Adv.low (Adv.bind (kin_adv hF) (j := 0) fun _ => Adv.ok _) (by omega) : Adv N 1 fun t => (kinP F t).bind _) t v u ht h
theorem decL_adv (role : Int) : ∀ (n : Nat) (l : List PV),Adv N 1 (decL F role n l) := by
 intro n
 induction n with
 | zero => intro l; exact Adv.bad (fun _ => 99) (fun _ => 0)
 | succ n ih => intro l; exact Adv.low (Adv.bind (needC_adv hF 2 (by omega)) (j := 0) fun _ => Adv.cond (fun _ => _) (Adv.bad (fun _ => 4) (fun _ => _)) (Adv.low (Adv.bind (took_adv hF _) (j := 0) fun _ => Adv.cond (fun _ => _) (Adv.low (ih _) (by omega)) (Adv.ok _)) (by omega))) (by omega)
theorem dec_adv (L : Nat) (vs : List PV) (role : Int) : Adv N 1 (decP F L vs role) := Adv.low (Adv.bind (decL_adv hF role L vs) (j := 0) fun _ => Adv.low (Adv.bind (need_adv hF _) (j := 0) fun _ => Adv.low (Adv.bind (typ_adv hF) (j := 0) fun _ => Adv.low (Adv.bind (took_adv hF _) (j := 0) fun _ => Adv.low (Adv.bind ((Adv.cond (k := 0) (fun _ => _) (Adv.low (Adv.bind (lit_adv hF) (j := 0) fun _ => Adv.ok _) (by omega)) (Adv.ok _))) (j := 0) fun _ => Adv.low (Adv.bind (need_adv hF _) (j := 0) fun _ => Adv.ok _) (by omega)) (by omega)) (by omega)) (by omega)) (by omega)) (by omega)
theorem decsL_adv (L : Nat) (role : Int) : ∀ (n : Nat) (l : List PV),Adv N 0 (decsL F L role n l) := by
 intro n
 induction n with
 | zero => intro l; exact Adv.bad (fun _ => 99) (fun _ => 0)
 | succ n ih => intro l; exact Adv.cond (fun t => t.c = 0) (Adv.bad (fun t => t.f) (fun t => t.a)) (Adv.cond (fun t => t.c = 2) (Adv.low (Adv.bind (dec_adv hF L l role) (j := 0) fun s => ih _) (by omega)) (Adv.ok _))
theorem rol_adv : Adv N 0 (rolP F) := Adv.low (Adv.bind (take_adv0 hF) (j := 0) fun _ => Adv.cond (fun _ => _) (Adv.low (Adv.bind (took_adv hF _) (j := 0) fun _ => Adv.ok _) (by omega)) (Adv.ok _)) (by omega)
theorem heaL_adv (L : Nat) : ∀ (n : Nat) (l : List PV),Adv N 0 (heaL F L n l) := by
 intro n
 induction n with
 | zero => intro l; exact Adv.bad (fun _ => 99) (fun _ => 0)
 | succ n ih => intro l; exact Adv.cond (fun t => t.c = 0) (Adv.bad (fun t => t.f) (fun t => t.a)) (Adv.cond (fun t => mem _ t = true) (Adv.low (Adv.bind (rol_adv hF) (j := 0) fun _ => Adv.low (Adv.bind (decsL_adv hF L _ L l) (j := 0) fun _ => Adv.low (Adv.bind (need_adv hF _) (j := 0) fun _ => ih _) (by omega)) (by omega)) (by omega)) (Adv.ok _))
theorem uni_adv (L whole : Nat) : Adv N 1 (uniP F L whole) := Adv.low (Adv.bind (need_adv hF _) (j := 0) fun _ => Adv.cond (fun _ => _) (Adv.bad (fun _ => 4) (fun _ => _)) (Adv.low (Adv.bind (needC_adv hF 2 (by omega)) (j := 0) fun _ => Adv.low (Adv.bind ((Adv.cond (k := 0) (fun _ => _) (Adv.low (Adv.bind (need_adv hF _) (j := 0) fun _ => Adv.low (kin_adv hF) (by omega)) (by omega)) (Adv.ok _))) (j := 0) fun _ => Adv.low (Adv.bind (heaL_adv hF L L []) (j := 0) fun _ => Adv.low (Adv.bind (lis_adv hF L 40) (j := 0) fun _ => Adv.low (Adv.bind (need_adv hF _) (j := 0) fun _ => Adv.ok _) (by omega)) (by omega)) (by omega)) (by omega)) (by omega))) (by omega)
end
end Go.Proofs.YtdcoidmbainkmaaGreatDoor
