import PyProof.Rows.All
import Wide.All
import OpenK.AllK
import Wide.FinOn
import HandS.ForMost
import HandS.ForExc
import HandS.CallSlots
import HandS.WordsExc
import HandS.ExcCtx
import HandS.TupAny
import HandS.IsInst
import HandS.Text
import HandS.Wide
import HandS.Iter
import HandS.Dict
import HandS.Zip
import HandS.More
import PyProof.Rows.StrMeet
import HandS.Words
import HandS.SetKeys
import HandS.MapJoin
import KE.KSuperObj
import KE.KExcSuper
import HandS.ExcInit
import HandS.FStr
import HandS.FStrTup
import HandS.ExcField
import HandS.ExcIs
import KE.KExcIs
import HandS.Defaults
import HandS.Star
import HandS.ClsMeth
import HandS.OwnIter
import PyProof.TupleIter
import KE.KDictPairs
import HandS.Deep
import HandS.TupMul
import HandS.CallLocal
import HandS.HotCalls
import HandS.Steps
import HandS.NoneIn
import HandS.Head2
import HandS.HeadEnd
import HandS.HeadHook2
import HandS.Codes
import PySem.Challenge.RW_keptacross_k07_work_lines
section
set_option Elab.async false
set_option linter.all false
set_option maxRecDepth 100000
set_option maxHeartbeats 2000000
namespace DL
open PySem L2

/-- data as trees; an object that may still change is told by its number -/
inductive D where
  | non | bl (b : Bool) | int (i : Int) | str (s : Str) | ty (n : String) | cls (c : Nat)
  | tup (xs : List D) | ptp (xs : List D) | lst (xs : List D) | scr (xs : List D) | dic (kvs : List (Key × D))
  | obj (c : Nat) (fs : List (Str × D))
  | box (i : Nat)
  deriving Inhabited

/-- an object that may change -/
inductive MO where
  | lst (ds : List D) | dic (kvs : List (Key × D)) | ins (c : Nat) (fs : List (Str × D))
abbrev Store := List MO

/-- the written part, and where the own classes stand -/
structure Tb where
  K : PySem.W.Frag
  C : Nat → Addr

/-- the addresses of the objects that may change, and of lists that are just being made -/
structure Wd where
  as : List Addr
  ps : List Addr
def Wd.ok (w : Wd) (a : Addr) : Prop := a ∉ w.as ∧ a ∉ w.ps

def TupAt (T : Tb) (w : Wd) (H : Hp) (a : Addr) (vs : List V) : Prop :=
  (w.ok a ∧ Rd H a (.tup vs)) ∨
    ∃ (o : Obj) (its : Array Value) (n : Nat), T.K.lookup a = some o ∧ o.cls = .type "tuple" ∧ o.data = .seq its n ∧ its.size ≤ sizeLine ∧ Vals vs its.toList
/-- a tuple whose object is known to have no dict of its own -/
def PtpAt (T : Tb) (w : Wd) (H : Hp) (a : Addr) (vs : List V) : Prop :=
  (w.ok a ∧ ∃ o : Obj, H a = some (.frz o (.tup vs)) ∧ o.dict = none) ∨
    ∃ (o : Obj) (its : Array Value) (n : Nat), T.K.lookup a = some o ∧ o.cls = .type "tuple" ∧ o.dict = none ∧ o.data = .seq its n ∧ its.size ≤ sizeLine ∧ Vals vs its.toList
theorem PtpAt.tup {T : Tb} {w : Wd} {H : Hp} {a : Addr} {vs : List V} (h : PtpAt T w H a vs) : TupAt T w H a vs := by
  rcases h with ⟨n, o, e, _⟩ | ⟨o, its, n, e1, e2, _, e3, e4, e5⟩
  · exact .inl ⟨n, .inr ⟨o, e⟩⟩
  · exact .inr ⟨o, its, n, e1, e2, e3, e4, e5⟩
def LstAt (T : Tb) (w : Wd) (H : Hp) (a : Addr) (vs : List V) : Prop := w.ok a ∧ H a = some (.lst vs)
/-- a list that is only read: the script, one of the top's -/
def ScrAt (T : Tb) (w : Wd) (H : Hp) (a : Addr) (vs : List V) : Prop :=
  (w.ok a ∧ Rd H a (.lst vs)) ∨
    ∃ (o : Obj) (its : Array Value) (n : Nat), T.K.lookup a = some o ∧ o.cls = .type "list" ∧ o.dict = none ∧ o.data = .seq its n ∧ its.size ≤ sizeLine ∧ Vals vs its.toList

mutual
def Rep (T : Tb) (w : Wd) (H : Hp) : D → V → Prop
  | .non, v => v = .non
  | .bl b, v => v = .bl b
  | .int i, v => v = .int i
  | .str s, v => v = .str s
  | .ty n, v => v = .ty n
  | .cls c, v => v = .ref (T.C c)
  | .tup xs, v => ∃ a vs, v = .ref a ∧ TupAt T w H a vs ∧ Reps T w H xs vs
  | .ptp xs, v => ∃ a vs, v = .ref a ∧ PtpAt T w H a vs ∧ Reps T w H xs vs
  | .lst xs, v => ∃ a vs, v = .ref a ∧ LstAt T w H a vs ∧ Reps T w H xs vs
  | .scr xs, v => ∃ a vs, v = .ref a ∧ ScrAt T w H a vs ∧ Reps T w H xs vs
  | .dic kvs, v => ∃ a ws, v = .ref a ∧ w.ok a ∧ Rd H a (.dK ws) ∧ RepK T w H kvs ws
  | .obj c fs, v => ∃ a dx ws, v = .ref a ∧ w.ok a ∧ H a = some (.ins (T.C c) dx ws) ∧ RepF T w H fs ws
  | .box i, v => ∃ a, v = .ref a ∧ w.as[i]? = some a
def Reps (T : Tb) (w : Wd) (H : Hp) : List D → List V → Prop
  | [], vs => vs = []
  | d :: ds, vs => ∃ v r, vs = v :: r ∧ Rep T w H d v ∧ Reps T w H ds r
def RepK (T : Tb) (w : Wd) (H : Hp) : List (Key × D) → List (Key × V) → Prop
  | [], ws => ws = []
  | (k, d) :: r, ws => ∃ v q, ws = (k, v) :: q ∧ Rep T w H d v ∧ RepK T w H r q
def RepF (T : Tb) (w : Wd) (H : Hp) : List (Str × D) → List (Str × V) → Prop
  | [], ws => ws = []
  | (k, d) :: r, ws => ∃ v q, ws = (k, v) :: q ∧ Rep T w H d v ∧ RepF T w H r q
end

/-- seen as any tuple -/
def D.tp : D → D
  | .ptp xs => .tup xs
  | d => d
theorem Rep.tp {T : Tb} {w : Wd} {H : Hp} {d : D} {v : V} (r : Rep T w H d v) : Rep T w H d.tp v := by
  cases d with
  | ptp xs =>
    obtain ⟨a, vs, e, h, rs⟩ := r
    exact ⟨a, vs, e, h.tup, rs⟩
  | _ => exact r
/-- what trees lean on is kept -/
structure Kp (w : Wd) (H : Hp) (w' : Wd) (H' : Hp) : Prop where
  tr : ∀ b o, w.ok b → H b = some o → w'.ok b ∧ H' b = some o
  mu : ∀ (i : Nat) a, w.as[i]? = some a → w'.as[i]? = some a
theorem TupAt.kp {T : Tb} {w w' : Wd} {H H' : Hp} {a : Addr} {vs : List V} (x : Kp w H w' H') (h : TupAt T w H a vs) : TupAt T w' H' a vs := by
  rcases h with ⟨n, h | ⟨o, h⟩⟩ | h
  · exact .inl ⟨(x.tr _ _ n h).1, .inl (x.tr _ _ n h).2⟩
  · exact .inl ⟨(x.tr _ _ n h).1, .inr ⟨o, (x.tr _ _ n h).2⟩⟩
  · exact .inr h
theorem PtpAt.kp {T : Tb} {w w' : Wd} {H H' : Hp} {a : Addr} {vs : List V} (x : Kp w H w' H') (h : PtpAt T w H a vs) : PtpAt T w' H' a vs := by
  rcases h with ⟨n, o, e, d⟩ | h
  · exact .inl ⟨(x.tr _ _ n e).1, o, (x.tr _ _ n e).2, d⟩
  · exact .inr h
theorem LstAt.kp {T : Tb} {w w' : Wd} {H H' : Hp} {a : Addr} {vs : List V} (x : Kp w H w' H') (h : LstAt T w H a vs) : LstAt T w' H' a vs := x.tr _ _ h.1 h.2
theorem ScrAt.kp {T : Tb} {w w' : Wd} {H H' : Hp} {a : Addr} {vs : List V} (x : Kp w H w' H') (h : ScrAt T w H a vs) : ScrAt T w' H' a vs := by
  rcases h with ⟨n, h | ⟨o, h⟩⟩ | h
  · exact .inl ⟨(x.tr _ _ n h).1, .inl (x.tr _ _ n h).2⟩
  · exact .inl ⟨(x.tr _ _ n h).1, .inr ⟨o, (x.tr _ _ n h).2⟩⟩
  · exact .inr h
theorem TupAt.sq {T : Tb} {w : Wd} {H : Hp} {a : Addr} {vs : List V} (h : TupAt T w H a vs) : SqT T.K H a vs := by
  rcases h with ⟨_, h⟩ | h
  · exact .inl h
  · exact .inr h
theorem LstAt.sq {T : Tb} {w : Wd} {H : Hp} {a : Addr} {vs : List V} (h : LstAt T w H a vs) : SqL T.K H a vs := .inl (.inl h.2)
theorem ScrAt.sq {T : Tb} {w : Wd} {H : Hp} {a : Addr} {vs : List V} (h : ScrAt T w H a vs) : SqL T.K H a vs := by
  rcases h with ⟨_, h⟩ | h
  · exact .inl h
  · exact .inr h
section
variable {T : Tb} {w w' : Wd} {H H' : Hp}
mutual
theorem Rep.kp (x : Kp w H w' H') : ∀ (d : D) (v : V), Rep T w H d v → Rep T w' H' d v
  | .non, v, h => h
  | .bl b, v, h => h
  | .int i, v, h => h
  | .str s, v, h => h
  | .ty n, v, h => h
  | .cls c, v, h => h
  | .tup xs, v, h => by
    obtain ⟨a, vs, e, h1, h2⟩ := h
    exact ⟨a, vs, e, h1.kp x, Reps.kp x xs vs h2⟩
  | .ptp xs, v, h => by
    obtain ⟨a, vs, e, h1, h2⟩ := h
    exact ⟨a, vs, e, h1.kp x, Reps.kp x xs vs h2⟩
  | .lst xs, v, h => by
    obtain ⟨a, vs, e, h1, h2⟩ := h
    exact ⟨a, vs, e, h1.kp x, Reps.kp x xs vs h2⟩
  | .scr xs, v, h => by
    obtain ⟨a, vs, e, h1, h2⟩ := h
    exact ⟨a, vs, e, h1.kp x, Reps.kp x xs vs h2⟩
  | .dic kvs, v, h => by
    obtain ⟨a, ws, e, n, h1, h2⟩ := h
    refine ⟨a, ws, e, ?_, ?_, RepK.kp x kvs ws h2⟩
    · rcases h1 with h | ⟨o, h⟩
      · exact (x.tr _ _ n h).1
      · exact (x.tr _ _ n h).1
    · rcases h1 with h | ⟨o, h⟩
      · exact .inl (x.tr _ _ n h).2
      · exact .inr ⟨o, (x.tr _ _ n h).2⟩
  | .obj c fs, v, h => by
    obtain ⟨a, dx, ws, e, n, h1, h2⟩ := h
    exact ⟨a, dx, ws, e, (x.tr _ _ n h1).1, (x.tr _ _ n h1).2, RepF.kp x fs ws h2⟩
  | .box i, v, h => by
    obtain ⟨a, e, h⟩ := h
    exact ⟨a, e, x.mu i a h⟩
theorem Reps.kp (x : Kp w H w' H') : ∀ (ds : List D) (vs : List V), Reps T w H ds vs → Reps T w' H' ds vs
  | [], vs, h => h
  | d :: ds, vs, h => by
    obtain ⟨v, r, e, h1, h2⟩ := h
    exact ⟨v, r, e, Rep.kp x d v h1, Reps.kp x ds r h2⟩
theorem RepK.kp (x : Kp w H w' H') : ∀ (ds : List (Key × D)) (vs : List (Key × V)), RepK T w H ds vs → RepK T w' H' ds vs
  | [], vs, h => h
  | (k, d) :: ds, vs, h => by
    obtain ⟨v, r, e, h1, h2⟩ := h
    exact ⟨v, r, e, Rep.kp x d v h1, RepK.kp x ds r h2⟩
theorem RepF.kp (x : Kp w H w' H') : ∀ (ds : List (Str × D)) (vs : List (Str × V)), RepF T w H ds vs → RepF T w' H' ds vs
  | [], vs, h => h
  | (k, d) :: ds, vs, h => by
    obtain ⟨v, r, e, h1, h2⟩ := h
    exact ⟨v, r, e, Rep.kp x d v h1, RepF.kp x ds r h2⟩
end
end

/-- what is reached: more objects, those that may change set apart; perhaps more lists in the making -/
structure Step (w : Wd) (H : Hp) (w' : Wd) (H' : Hp) : Prop where
  pre : ∃ r, w'.as = w.as ++ r
  new : ∀ b ∈ w'.as, b ∉ w.as → H b = none
  keep : ∀ b o, b ∉ w.as → H b = some o → H' b = some o
  pend : ∃ q, w'.ps = q ++ w.ps ∧ ∀ p ∈ q, H p = none ∧ p ∉ w.as
theorem Step.refl {w : Wd} {H : Hp} : Step w H w H := ⟨⟨[], by simp⟩, fun _ h n => absurd h n, fun _ _ _ h => h, [], by simp, by simp⟩
theorem Step.trans {a b c : Wd} {H H1 H2 : Hp} (x : Step a H b H1) (y : Step b H1 c H2) : Step a H c H2 := by
  obtain ⟨r, hr⟩ := x.pre
  obtain ⟨q, hq⟩ := y.pre
  obtain ⟨r2, hr2, n1⟩ := x.pend
  obtain ⟨q2, hq2, n2⟩ := y.pend
  refine ⟨⟨r ++ q, by rw [hq, hr, List.append_assoc]⟩, fun e he hn => ?_, fun e o hn h => ?_, q2 ++ r2, by rw [hq2, hr2, List.append_assoc], fun p hp => ?_⟩
  · by_cases h1 : e ∈ b.as
    · exact x.new e h1 hn
    · cases h : H e with
      | none => rfl
      | some o => have := x.keep e o hn h; rw [y.new e he h1] at this; cases this
  · refine y.keep e o (fun h1 => ?_) (x.keep e o hn h)
    rw [x.new e h1 hn] at h; cases h
  · rcases List.mem_append.mp hp with hp | hp
    · obtain ⟨n3, n4⟩ := n2 p hp
      have n5 : p ∉ a.as := fun h => n4 (by rw [hr]; exact List.mem_append_left _ h)
      refine ⟨?_, n5⟩
      cases h : H p with
      | none => rfl
      | some o => have := x.keep p o n5 h; rw [n3] at this; cases this
    · exact n1 p hp
theorem Step.ok {w w' : Wd} {H H' : Hp} (x : Step w H w' H') {a : Addr} {o : HO} (h : w.ok a) (e : H a = some o) : w'.ok a := by
  constructor
  · intro h1
    rw [x.new a h1 h.1] at e
    cases e
  · obtain ⟨q, hq, n⟩ := x.pend
    rw [hq]
    intro hm
    rcases List.mem_append.mp hm with hm | hm
    · rw [(n a hm).1] at e; cases e
    · exact h.2 hm
theorem Step.kp {w w' : Wd} {H H' : Hp} (x : Step w H w' H') : Kp w H w' H' := by
  refine ⟨fun b o h e => ⟨x.ok h e, x.keep b o h.1 e⟩, fun i a h => ?_⟩
  obtain ⟨r, hr⟩ := x.pre
  rw [hr, List.getElem?_append_left (List.getElem?_eq_some_iff.mp h).1]
  exact h
section
variable {T : Tb} {w w' : Wd} {H H' : Hp}
theorem TupAt.mono {a : Addr} {vs : List V} (x : Step w H w' H') (h : TupAt T w H a vs) : TupAt T w' H' a vs := h.kp x.kp
theorem LstAt.mono {a : Addr} {vs : List V} (x : Step w H w' H') (h : LstAt T w H a vs) : LstAt T w' H' a vs := h.kp x.kp
theorem Rep.mono (x : Step w H w' H') (d : D) (v : V) (h : Rep T w H d v) : Rep T w' H' d v := Rep.kp x.kp d v h
theorem Reps.mono (x : Step w H w' H') (d : List D) (v : List V) (h : Reps T w H d v) : Reps T w' H' d v := Reps.kp x.kp d v h
theorem RepK.mono (x : Step w H w' H') (d : List (Key × D)) (v : List (Key × V)) (h : RepK T w H d v) : RepK T w' H' d v := RepK.kp x.kp d v h
theorem RepF.mono (x : Step w H w' H') (d : List (Str × D)) (v : List (Str × V)) (h : RepF T w H d v) : RepF T w' H' d v := RepF.kp x.kp d v h
end
end DL
end
section
set_option Elab.async false
set_option linter.all false
set_option maxRecDepth 100000
set_option maxHeartbeats 2000000
namespace DL
open PySem L2

/-! ### data that names no object at n or beyond; an object put in place of its number -/
mutual
def D.low (n : Nat) : D → Bool
  | .tup xs => D.lows n xs
  | .ptp xs => D.lows n xs
  | .lst xs => D.lows n xs
  | .scr xs => D.lows n xs
  | .dic kvs => D.lowK n kvs
  | .obj _ fs => D.lowF n fs
  | .box i => decide (i < n)
  | _ => true
def D.lows (n : Nat) : List D → Bool
  | [] => true
  | d :: ds => D.low n d && D.lows n ds
def D.lowK (n : Nat) : List (Key × D) → Bool
  | [] => true
  | (_, d) :: r => D.low n d && D.lowK n r
def D.lowF (n : Nat) : List (Str × D) → Bool
  | [] => true
  | (_, d) :: r => D.low n d && D.lowF n r
end
mutual
def D.sub (f : Nat → D) : D → D
  | .tup xs => .tup (D.subs f xs)
  | .ptp xs => .ptp (D.subs f xs)
  | .lst xs => .lst (D.subs f xs)
  | .scr xs => .scr (D.subs f xs)
  | .dic kvs => .dic (D.subK f kvs)
  | .obj c fs => .obj c (D.subF f fs)
  | .box i => f i
  | .non => .non
  | .bl b => .bl b
  | .int i => .int i
  | .str s => .str s
  | .ty n => .ty n
  | .cls c => .cls c
def D.subs (f : Nat → D) : List D → List D
  | [] => []
  | d :: ds => D.sub f d :: D.subs f ds
def D.subK (f : Nat → D) : List (Key × D) → List (Key × D)
  | [] => []
  | (k, d) :: r => (k, D.sub f d) :: D.subK f r
def D.subF (f : Nat → D) : List (Str × D) → List (Str × D)
  | [] => []
  | (k, d) :: r => (k, D.sub f d) :: D.subF f r
end
def MO.low (n : Nat) : MO → Bool
  | .lst ds => D.lows n ds
  | .dic kvs => D.lowK n kvs
  | .ins _ fs => D.lowF n fs
def MO.sub (f : Nat → D) : MO → D
  | .lst ds => .lst (D.subs f ds)
  | .dic kvs => .dic (D.subK f kvs)
  | .ins c fs => .obj c (D.subF f fs)
/-- the objects from n on as trees -/
def fzAll (n : Nat) : Store → List D → List D
  | [], acc => acc
  | mo :: r, acc => fzAll n r (acc ++ [if acc.length < n then .box acc.length else mo.sub fun j => acc.getD j .non])
def fz (n : Nat) (st : Store) (d : D) : D := d.sub fun j => (fzAll n st []).getD j .non

def MRep (T : Tb) (w : Wd) (H : Hp) : MO → Addr → Prop
  | .lst ds, a => ∃ vs, H a = some (.lst vs) ∧ Reps T w H ds vs
  | .dic kvs, a => ∃ ws, H a = some (.dK ws) ∧ RepK T w H kvs ws
  | .ins c fs, a => ∃ dx ws, H a = some (.ins (T.C c) dx ws) ∧ RepF T w H fs ws
/-- the objects that may change, as they stand; each names only earlier ones -/
structure WH (T : Tb) (w : Wd) (H : Hp) (st : Store) : Prop where
  len : w.as.length = st.length
  nd : w.as.Nodup
  obs : ∀ (i : Nat) a mo, w.as[i]? = some a → st[i]? = some mo → MRep T w H mo a
  ord : ∀ (i : Nat) mo, st[i]? = some mo → mo.low i = true
  pst : ∀ p ∈ w.ps, p ∉ w.as ∧ ∃ o, H p = some o
section
variable {T : Tb} {w w' : Wd} {H H' : Hp} {st : Store}
theorem MRep.kp (x : Kp w H w' H') {mo : MO} {a : Addr} (h : MRep T w H mo a) (k : ∀ o, H a = some o → H' a = some o) : MRep T w' H' mo a := by
  cases mo with
  | lst ds =>
    obtain ⟨vs, e, r⟩ := h
    exact ⟨vs, k _ e, Reps.kp x _ _ r⟩
  | dic kvs =>
    obtain ⟨vs, e, r⟩ := h
    exact ⟨vs, k _ e, RepK.kp x _ _ r⟩
  | ins c fs =>
    obtain ⟨dx, vs, e, r⟩ := h
    exact ⟨dx, vs, k _ e, RepF.kp x _ _ r⟩
theorem MRep.mono (x : Step w H w' H') {mo : MO} {a : Addr} (h : MRep T w H mo a) (k : ∀ o, H a = some o → H' a = some o) : MRep T w' H' mo a := h.kp x.kp k
theorem MRep.there {mo : MO} {a : Addr} (h : MRep T w H mo a) : ∃ o, H a = some o := by
  cases mo with
  | lst ds => obtain ⟨vs, e, r⟩ := h; exact ⟨_, e⟩
  | dic kvs => obtain ⟨vs, e, r⟩ := h; exact ⟨_, e⟩
  | ins c fs => obtain ⟨dx, vs, e, r⟩ := h; exact ⟨_, e⟩
theorem WH.mo (x : WH T w H st) {i : Nat} {a : Addr} (h : w.as[i]? = some a) : ∃ mo, st[i]? = some mo ∧ MRep T w H mo a := by
  have hi := (List.getElem?_eq_some_iff.mp h).1
  rw [x.len] at hi
  exact ⟨st[i], by simp [hi], x.obs i a _ h (by simp [hi])⟩
theorem WH.ad (x : WH T w H st) {i : Nat} {mo : MO} (h : st[i]? = some mo) : ∃ a, w.as[i]? = some a ∧ MRep T w H mo a := by
  have hi := (List.getElem?_eq_some_iff.mp h).1
  rw [← x.len] at hi
  exact ⟨w.as[i], by simp [hi], x.obs i _ mo (by simp [hi]) h⟩
theorem WH.there (x : WH T w H st) {a : Addr} (h : a ∈ w.as) : ∃ o, H a = some o := by
  obtain ⟨i, h⟩ := List.mem_iff_getElem?.mp h
  obtain ⟨mo, _, r⟩ := x.mo h
  exact r.there
theorem WH.new (x : WH T w H st) {p : Addr} (h : H p = none) : w.ok p := by
  constructor
  · intro m
    obtain ⟨o, e⟩ := x.there m
    rw [h] at e; cases e
  · intro m
    obtain ⟨_, o, e⟩ := x.pst p m
    rw [h] at e; cases e
/-- a new tree node -/
theorem Step.node {p : Addr} {o : HO} (h : H p = none) : Step w H w (upd H p o) :=
  ⟨⟨[], by simp⟩, fun _ h n => absurd h n, fun b u _ e => by rw [upd_ne (ne_of_none e h)]; exact e, [], by simp, by simp⟩
/-- extension by whatever keeps all that is tracked -/
theorem Step.same (k : ∀ b o, H b = some o → H' b = some o) : Step w H w H' := ⟨⟨[], by simp⟩, fun _ h n => absurd h n, fun b u _ e => k b u e, [], by simp, by simp⟩
theorem WH.same (x : WH T w H st) (k : ∀ b o, H b = some o → H' b = some o) : WH T w H' st :=
  ⟨x.len, x.nd, fun i a mo h1 h2 => (x.obs i a mo h1 h2).mono (.same k) fun u e => k _ _ e, x.ord, fun p hp => ⟨(x.pst p hp).1, by
    obtain ⟨o, e⟩ := (x.pst p hp).2
    exact ⟨o, k _ _ e⟩⟩⟩
theorem WH.node (x : WH T w H st) {p : Addr} {o : HO} (h : H p = none) : WH T w (upd H p o) st := x.same fun b u e => by rw [upd_ne (ne_of_none e h)]; exact e
/-- with one more object that may change -/
abbrev Wd.add (w : Wd) (p : Addr) : Wd := ⟨w.as ++ [p], w.ps⟩
theorem Step.obj {p : Addr} {o : HO} (h : H p = none) : Step w H (w.add p) (upd H p o) :=
  ⟨⟨[p], rfl⟩, fun b hb n => by
    rcases List.mem_append.mp hb with hb | hb
    · exact absurd hb n
    · have e : b = p := by simpa using hb
      rw [e]; exact h, fun b u _ e => by rw [upd_ne (ne_of_none e h)]; exact e, [], by simp, by simp⟩
theorem WH.obj (x : WH T w H st) {p : Addr} {o : HO} {mo : MO} (h : H p = none) (r : MRep T (w.add p) (upd H p o) mo p) (hb : mo.low st.length = true) : WH T (w.add p) (upd H p o) (st ++ [mo]) := by
  have np := x.new h
  have hlen := x.len
  refine ⟨by simp [x.len], ?_, fun i a m h1 h2 => ?_, fun i m h2 => ?_, fun q hq => ?_⟩
  · show (w.as ++ [p]).Nodup
    rw [List.nodup_append]
    refine ⟨x.nd, by simp, fun a ha b hb e => ?_⟩
    have e2 : b = p := by simpa using hb
    subst e2; subst e
    exact np.1 ha
  · have h1 : (w.as ++ [p])[i]? = some a := h1
    by_cases hi : i < w.as.length
    · rw [List.getElem?_append_left hi] at h1
      rw [List.getElem?_append_left (by rw [← x.len]; exact hi)] at h2
      exact (x.obs i a m h1 h2).mono (.obj h) fun u e => by rw [upd_ne (ne_of_none e h)]; exact e
    · rw [List.getElem?_append_right (by omega)] at h1
      rw [List.getElem?_append_right (by omega)] at h2
      have e1 : i - w.as.length = 0 := by
        have := (List.getElem?_eq_some_iff.mp h1).1
        simp at this; omega
      have e2 : i - st.length = 0 := by omega
      rw [e1] at h1; rw [e2] at h2
      cases h1; cases h2
      exact r
  · by_cases hi : i < st.length
    · rw [List.getElem?_append_left hi] at h2
      exact x.ord i m h2
    · rw [List.getElem?_append_right (by omega)] at h2
      have e2 : i - st.length = 0 := by
        have := (List.getElem?_eq_some_iff.mp h2).1
        simp at this; omega
      rw [e2] at h2
      cases h2
      have e3 : i = st.length := by omega
      rw [e3]; exact hb
  · obtain ⟨n, o', e⟩ := x.pst q hq
    refine ⟨fun hm => ?_, o', by rw [upd_ne (ne_of_none e h)]; exact e⟩
    rcases List.mem_append.mp hm with hm | hm
    · exact n hm
    · have e2 : q = p := by simpa using hm
      rw [e2, h] at e; cases e
/-- an object changes -/
theorem Step.put {a : Addr} {o : HO} (h : a ∈ w.as) : Step w H w (upd H a o) :=
  ⟨⟨[], by simp⟩, fun _ h n => absurd h n, fun b u n e => by rw [upd_ne (fun z : b = a => n (by rw [z]; exact h))]; exact e, [], by simp, by simp⟩
theorem WH.put (x : WH T w H st) {i : Nat} {a : Addr} {o : HO} {mo : MO} (h : w.as[i]? = some a) (r : MRep T w (upd H a o) mo a) (hb : mo.low i = true) : WH T w (upd H a o) (st.set i mo) := by
  have hm : a ∈ w.as := List.mem_iff_getElem?.mpr ⟨i, h⟩
  refine ⟨by simp [x.len], x.nd, fun j b m h1 h2 => ?_, fun j m h2 => ?_, fun q hq => ?_⟩
  · by_cases e : i = j
    · subst e
      rw [h] at h1; cases h1
      have := (List.getElem?_eq_some_iff.mp h).1
      rw [List.getElem?_set_self (by rw [← x.len]; exact this)] at h2
      cases h2
      exact r
    · rw [List.getElem?_set_ne e] at h2
      refine (x.obs j b m h1 h2).mono (.put hm) fun u q => ?_
      rw [upd_ne fun z => ?_]
      · exact q
      · subst z
        obtain ⟨l1, e1⟩ := List.getElem?_eq_some_iff.mp h
        obtain ⟨l2, e2⟩ := List.getElem?_eq_some_iff.mp h1
        exact e ((List.getElem_inj x.nd).mp (e1.trans e2.symm))
  · by_cases e : i = j
    · subst e
      by_cases hl : i < st.length
      · rw [List.getElem?_set_self hl] at h2
        cases h2
        exact hb
      · rw [List.getElem?_eq_none (by simpa using hl)] at h2; cases h2
    · rw [List.getElem?_set_ne e] at h2
      exact x.ord j m h2
  · obtain ⟨n, o', e⟩ := x.pst q hq
    exact ⟨n, o', by rw [upd_ne fun z : q = a => n (by rw [z]; exact hm)]; exact e⟩
/-! a list in the making -/
theorem Kp.pend {p : Addr} {o : HO} (h : p ∈ w.ps) : Kp w H w (upd H p o) := ⟨fun b u hb e => ⟨hb, by rw [upd_ne fun z : b = p => hb.2 (by rw [z]; exact h)]; exact e⟩, fun _ _ e => e⟩
theorem WH.pend (x : WH T w H st) {p : Addr} {o : HO} (h : p ∈ w.ps) : WH T w (upd H p o) st := by
  have np : ∀ b, b ∈ w.as → b ≠ p := fun b hb z => (x.pst p h).1 (by rw [← z]; exact hb)
  refine ⟨x.len, x.nd, fun i a mo h1 h2 => (x.obs i a mo h1 h2).kp (.pend h) fun u e => by rw [upd_ne (np a (List.mem_iff_getElem?.mpr ⟨i, h1⟩))]; exact e, x.ord, fun q hq => ⟨(x.pst q hq).1, ?_⟩⟩
  by_cases z : q = p
  · rw [z]; exact ⟨_, upd_same⟩
  · obtain ⟨u, e⟩ := (x.pst q hq).2
    exact ⟨u, by rw [upd_ne z]; exact e⟩
theorem Kp.drop {ps : List Addr} (h : ∀ p ∈ ps, p ∈ w.ps) : Kp w H ⟨w.as, ps⟩ H := ⟨fun b u hb e => ⟨⟨hb.1, fun m => hb.2 (h b m)⟩, e⟩, fun _ _ e => e⟩
theorem WH.drop (x : WH T w H st) {ps : List Addr} (h : ∀ p ∈ ps, p ∈ w.ps) : WH T ⟨w.as, ps⟩ H st :=
  ⟨x.len, x.nd, fun i a mo h1 h2 => (x.obs i a mo h1 h2).kp (.drop h) fun u e => e, x.ord, fun q hq => x.pst q (h q hq)⟩
/-- a list is begun -/
theorem Step.open (x : WH T w H st) {p : Addr} {o : HO} (h : H p = none) : Step w H ⟨w.as, p :: w.ps⟩ (upd H p o) :=
  ⟨⟨[], by simp⟩, fun _ h n => absurd h n, fun b u _ e => by rw [upd_ne (ne_of_none e h)]; exact e, [p], rfl, fun q hq => by
    have e : q = p := by simpa using hq
    rw [e]
    exact ⟨h, (x.new h).1⟩⟩
theorem WH.open (x : WH T w H st) {p : Addr} {o : HO} (h : H p = none) : WH T ⟨w.as, p :: w.ps⟩ (upd H p o) st := by
  have k : Kp w H ⟨w.as, p :: w.ps⟩ (upd H p o) := (Step.open x h).kp
  refine ⟨x.len, x.nd, fun i a mo h1 h2 => (x.obs i a mo h1 h2).kp k fun u e => by rw [upd_ne (ne_of_none e h)]; exact e, x.ord, fun q hq => ?_⟩
  rcases List.mem_cons.mp hq with rfl | hq
  · exact ⟨(x.new h).1, _, upd_same⟩
  · obtain ⟨n, u, e⟩ := x.pst q hq
    exact ⟨n, u, by rw [upd_ne (ne_of_none e h)]; exact e⟩
theorem Step.pending {w2 : Wd} {H2 : Hp} (s : Step w H w2 H2) {p : Addr} {o : HO} (h : H p = none) : Step w H w2 (upd H2 p o) :=
  ⟨s.pre, s.new, fun b u n e => by rw [upd_ne (ne_of_none e h)]; exact s.keep b u n e, s.pend⟩
theorem Step.shut {w2 : Wd} {H2 : Hp} (s : Step w H w2 H2) : Step w H ⟨w2.as, w.ps⟩ H2 := ⟨s.pre, s.new, s.keep, [], by simp, by simp⟩
end

/-! ### results -/
inductive Res (α : Type) where
  | ok (a : α) (st : Store)
  | exc (c : Nat) (fs : List (Str × D)) (st : Store)
  | stuck
def Res.bind {α β : Type} (r : Res α) (k : α → Store → Res β) : Res β := match r with
  | .ok a st => k a st
  | .exc c fs st => .exc c fs st
  | .stuck => .stuck
abbrev DEnv := List (Option D)
abbrev ME := DEnv → Store → Res D
abbrev MA := DEnv → Store → Res (List D)
abbrev MT := DEnv → Store → Res Bool

def XRep (T : Tb) (as : Wd) (H : Hp) (c : Nat) (fs : List (Str × D)) (cls : Value) (dx : Option Addr) : Prop :=
  cls = .ref (T.C c) ∧ ∃ d ws, dx = some d ∧ as.ok d ∧ H d = some (.xd ws) ∧ RepF T as H fs ws
/-- what follows: Q of each value that tells the result, E of each exception -/
def Post {α β : Type} (T : Tb) (R : Wd → Hp → α → β → Prop) (as : Wd) (H : Hp) (r : Res α) (Q : β → Hp → Prop) (E : XK) : Prop := match r with
  | .ok a st => ∀ w2 H' v, Step as H w2 H' → WH T w2 H' st → R w2 H' a v → Q v H'
  | .exc c fs st => ∀ w2 H' cls dx, Step as H w2 H' → WH T w2 H' st → XRep T w2 H' c fs cls dx → E cls dx H'
  | .stuck => False
theorem Post.mono {α β : Type} {T : Tb} {R : Wd → Hp → α → β → Prop} {as w2 : Wd} {H H' : Hp} {r : Res α} {Q : β → Hp → Prop} {E : XK} (x : Step as H w2 H') (h : Post T R as H r Q E) : Post T R w2 H' r Q E := by
  cases r with
  | ok a st => exact fun a2 H2 v s w q => h a2 H2 v (x.trans s) w q
  | exc c fs st => exact fun a2 H2 cls dx s w q => h a2 H2 cls dx (x.trans s) w q
  | stuck => exact h
theorem Post.imp {α β γ δ : Type} {T : Tb} {R : Wd → Hp → α → β → Prop} {R' : Wd → Hp → γ → δ → Prop} {as : Wd} {H : Hp} {r : Res α} {k : α → Store → Res γ} {Q : δ → Hp → Prop} {Q' : β → Hp → Prop} {E : XK}
    (h : Post T R' as H (r.bind k) Q E) (hk : ∀ a st w2 H' v, r = .ok a st → Step as H w2 H' → WH T w2 H' st → R w2 H' a v → Post T R' w2 H' (k a st) Q E → Q' v H') : Post T R as H r Q' E := by
  cases r with
  | ok a st => exact fun a2 H2 v s w q => hk a st a2 H2 v rfl s w q (Post.mono (r := k a st) s h)
  | exc c fs st => exact h
  | stuck => exact h
def EnvR (T : Tb) (as : Wd) (H : Hp) (env : DEnv) (σ : St) : Prop := env.length = σ.length ∧ ∀ (i : Nat) d, env[i]? = some (some d) → ∃ v, σ[i]? = some (some v) ∧ Rep T as H d v
theorem EnvR.mono {T : Tb} {as w2 : Wd} {H H' : Hp} {env : DEnv} {σ : St} (x : Step as H w2 H') (h : EnvR T as H env σ) : EnvR T w2 H' env σ :=
  ⟨h.1, fun i d e => by
    obtain ⟨v, e1, r⟩ := h.2 i d e
    exact ⟨v, e1, Rep.mono x _ _ r⟩⟩
theorem EnvR.set {T : Tb} {as : Wd} {H : Hp} {env : DEnv} {σ : St} (h : EnvR T as H env σ) (i : Nat) {d : D} {v : V} (r : Rep T as H d v) : EnvR T as H (env.set i (some d)) (σ.set i (some v)) := by
  refine ⟨by simp [h.1], fun j e hj => ?_⟩
  by_cases q : i = j
  · subst q
    by_cases hl : i < env.length
    · rw [List.getElem?_set_self hl] at hj
      cases hj
      exact ⟨v, by rw [List.getElem?_set_self (by rw [← h.1]; exact hl)], r⟩
    · rw [List.getElem?_eq_none (by simpa using hl)] at hj; cases hj
  · rw [List.getElem?_set_ne q] at hj ⊢
    exact h.2 j e hj
abbrev RB : Wd → Hp → Bool → Bool → Prop := fun _ _ a b => a = b
/-- a reading does what its mirror tells -/
def SimE (T : Tb) (W : St → XK) (t : TE) (m : ME) : Prop := ∀ as H σ env st Q, EnvR T as H env σ → WH T as H st → Post T (Rep T) as H (m env st) Q (W σ) → t σ H Q
def SimA (T : Tb) (W : St → XK) (t : TA) (m : MA) : Prop := ∀ as H σ env st Q, EnvR T as H env σ → WH T as H st → Post T (Reps T) as H (m env st) Q (W σ) → t σ H Q
def SimT (T : Tb) (W : St → XK) (t : TT) (m : MT) : Prop := ∀ as H σ env st Q, EnvR T as H env σ → WH T as H st → Post T RB as H (m env st) Q (W σ) → t σ H Q
/-- by values -/
def SimR (T : Tb) (E : XK) (r : R2) (f : D → D → Store → Res D) : Prop := ∀ as H d e x y st Q, Rep T as H d x → Rep T as H e y → WH T as H st → Post T (Rep T) as H (f d e st) Q E → r x y H Q
def SimU (T : Tb) (E : XK) (r : V → Hp → VK → Prop) (f : D → Store → Res D) : Prop := ∀ as H d x st Q, Rep T as H d x → WH T as H st → Post T (Rep T) as H (f d st) Q E → r x H Q
def SimC (T : Tb) (E : XK) (r : List V → Hp → VK → Prop) (f : List D → Store → Res D) : Prop := ∀ as H ds xs st Q, Reps T as H ds xs → WH T as H st → Post T (Rep T) as H (f ds st) Q E → r xs H Q

/-! ### expressions -/
def mVar (i : Nat) : ME := fun env st => match env[i]? with
  | some (some d) => .ok d st
  | _ => .stuck
def mC (d : D) : ME := fun _ st => .ok d st
def mOp (f : D → D → Store → Res D) (a b : ME) : ME := fun env st => (a env st).bind fun d st1 => (b env st1).bind fun e st2 => f d e st2
def mUn (f : D → Store → Res D) (a : ME) : ME := fun env st => (a env st).bind f
def mNil : MA := fun _ st => .ok [] st
def mCons (a : ME) (r : MA) : MA := fun env st => (a env st).bind fun d st1 => (r env st1).bind fun ds st2 => .ok (d :: ds) st2
def mCall (f : List D → Store → Res D) (a : MA) : ME := fun env st => (a env st).bind f
section
variable {T : Tb} {W : St → XK} {E : XK} {t ta tb : TE} {m ma mb : ME}
theorem sim_var {i : Nat} : SimE T W (tVar i) (mVar i) := fun as H σ env st Q e w h => by
  unfold mVar at h
  split at h
  · rename_i d hd
    obtain ⟨v, e1, r⟩ := e.2 i d hd
    exact ⟨v, e1, h as H v .refl w r⟩
  · exact h.elim
theorem sim_c {v : V} {d : D} (h : ∀ as H, Rep T as H d v) : SimE T W (tC v) (mC d) := fun as H σ env st Q e w hp => hp as H v .refl w (h as H)
theorem sim_op {r : R2} {f : D → D → Store → Res D} (hr : ∀ σ, SimR T (W σ) r f) (ha : SimE T W ta ma) (hb : SimE T W tb mb) : SimE T W (tOp r ta tb) (mOp f ma mb) := fun as H σ env st Q e w h =>
  ha as H σ env st _ e w (Post.imp h fun d st1 as1 H1 x _ s1 w1 r1 h1 =>
    hb as1 H1 σ env st1 _ (e.mono s1) w1 (Post.imp h1 fun d2 st2 as2 H2 y _ s2 w2 r2 h2 =>
      hr σ as2 H2 d d2 x y st2 Q (Rep.mono s2 _ _ r1) r2 w2 h2))
theorem sim_un {r : V → Hp → VK → Prop} {f : D → Store → Res D} (hr : ∀ σ, SimU T (W σ) r f) (ha : SimE T W ta ma) : SimE T W (tUn r ta) (mUn f ma) := fun as H σ env st Q e w h =>
  ha as H σ env st _ e w (Post.imp h fun d st1 as1 H1 x _ s1 w1 r1 h1 => hr σ as1 H1 d x st1 Q r1 w1 h1)
theorem sim_nil : SimA T W tNil mNil := fun as H σ env st Q e w h => h as H [] .refl w rfl
theorem sim_cons {tr : TA} {mr : MA} (ha : SimE T W ta ma) (hr : SimA T W tr mr) : SimA T W (tCons ta tr) (mCons ma mr) := fun as H σ env st Q e w h =>
  ha as H σ env st _ e w (Post.imp h fun d st1 as1 H1 x _ s1 w1 r1 h1 =>
    hr as1 H1 σ env st1 _ (e.mono s1) w1 (Post.imp h1 fun ds st2 as2 H2 xs _ s2 w2 r2 h2 =>
      h2 as2 H2 (x :: xs) .refl w2 ⟨x, xs, rfl, Rep.mono s2 _ _ r1, r2⟩))
theorem sim_cb {r : List V → Hp → VK → Prop} {f : List D → Store → Res D} {tr : TA} {mr : MA} (hr : ∀ σ, SimC T (W σ) r f) (ha : SimA T W tr mr) : SimE T W (tCB r tr) (mCall f mr) := fun as H σ env st Q e w h =>
  ha as H σ env st _ e w (Post.imp h fun ds st1 as1 H1 xs _ s1 w1 r1 h1 => hr σ as1 H1 ds xs st1 Q r1 w1 h1)
/-! tuples and lists -/
theorem Reps.len {as : Wd} {H : Hp} : ∀ {ds : List D} {vs : List V}, Reps T as H ds vs → ds.length = vs.length
  | [], vs, h => by rw [show vs = [] from h]; rfl
  | d :: ds, vs, h => by
    obtain ⟨v, r, e, h1, h2⟩ := h
    rw [e, List.length_cons, List.length_cons, Reps.len h2]
def okTup (ds : List D) (st : Store) : Res D := if ds.length ≤ sizeLine then .ok (.tup ds) st else .stuck
def okLst (ds : List D) (st : Store) : Res D := if ds.length ≤ sizeLine then .ok (.lst ds) st else .stuck
def mTup (a : MA) : ME := mCall okTup a
def mLst (a : MA) : ME := mCall okLst a
theorem post_tup {as : Wd} {H : Hp} {ds : List D} {xs : List V} {st : Store} {Q : VK} (r : Reps T as H ds xs) (w : WH T as H st) (h : Post T (Rep T) as H (okTup ds st) Q E) : xs.length ≤ sizeLine ∧ ∀ p, H p = none → Q (.ref p) (upd H p (.tup xs)) := by
  unfold okTup at h
  split at h
  · rename_i hl
    refine ⟨by rw [← r.len]; exact hl, fun p hp => h as _ _ (.node hp) (w.node hp) ⟨p, xs, rfl, .inl ⟨w.new hp, .inl upd_same⟩, Reps.mono (.node hp) _ _ r⟩⟩
  · exact h.elim
theorem post_lst {as : Wd} {H : Hp} {ds : List D} {xs : List V} {st : Store} {Q : VK} (r : Reps T as H ds xs) (w : WH T as H st) (h : Post T (Rep T) as H (okLst ds st) Q E) : xs.length ≤ sizeLine ∧ ∀ p, H p = none → Q (.ref p) (upd H p (.lst xs)) := by
  unfold okLst at h
  split at h
  · rename_i hl
    refine ⟨by rw [← r.len]; exact hl, fun p hp => h as _ _ (.node hp) (w.node hp) ⟨p, xs, rfl, ⟨w.new hp, upd_same⟩, Reps.mono (.node hp) _ _ r⟩⟩
  · exact h.elim
theorem sim_tup {tr : TA} {mr : MA} (ha : SimA T W tr mr) : SimE T W (tTup tr) (mTup mr) := fun as H σ env st Q e w h =>
  ha as H σ env st _ e w (Post.imp h fun ds st1 as1 H1 xs _ s1 w1 r1 h1 => post_tup r1 w1 h1)
theorem sim_lst {tr : TA} {mr : MA} (ha : SimA T W tr mr) : SimE T W (tLst tr) (mLst mr) := fun as H σ env st Q e w h =>
  ha as H σ env st _ e w (Post.imp h fun ds st1 as1 H1 xs _ s1 w1 r1 h1 => post_lst r1 w1 h1)
/-- a list that may change -/
def okLstM (ds : List D) (st : Store) : Res D := if ds.length ≤ sizeLine ∧ D.lows st.length ds = true then .ok (.box st.length) (st ++ [.lst ds]) else .stuck
def mLstM (a : MA) : ME := mCall okLstM a
theorem post_lstM {as : Wd} {H : Hp} {ds : List D} {xs : List V} {st : Store} {Q : VK} (r : Reps T as H ds xs) (w : WH T as H st) (h : Post T (Rep T) as H (okLstM ds st) Q E) : xs.length ≤ sizeLine ∧ ∀ p, H p = none → Q (.ref p) (upd H p (.lst xs)) := by
  unfold okLstM at h
  split at h
  · rename_i hl
    refine ⟨by rw [← r.len]; exact hl.1, fun p hp => h (as.add p) _ _ (.obj hp) (w.obj hp ⟨xs, upd_same, Reps.mono (.obj hp) _ _ r⟩ hl.2) ⟨p, rfl, ?_⟩⟩
    show (as.as ++ [p])[st.length]? = some p
    rw [← w.len, List.getElem?_append_right (Nat.le_refl _), Nat.sub_self]
    rfl
  · exact h.elim
theorem sim_lstM {tr : TA} {mr : MA} (ha : SimA T W tr mr) : SimE T W (tLst tr) (mLstM mr) := fun as H σ env st Q e w h =>
  ha as H σ env st _ e w (Post.imp h fun ds st1 as1 H1 xs _ s1 w1 r1 h1 => post_lstM r1 w1 h1)

/-! tests -/
def mTest (a : ME) : MT := fun env st => (a env st).bind fun d st1 => match d with
  | .bl b => .ok b st1
  | _ => .stuck
def mAnd (a b : MT) : MT := fun env st => (a env st).bind fun c st1 => if c = true then b env st1 else .ok false st1
def mOr (a b : MT) : MT := fun env st => (a env st).bind fun c st1 => if c = true then .ok true st1 else b env st1
def mNot (a : MT) : MT := fun env st => (a env st).bind fun c st1 => .ok (!c) st1
def mOfT (a : MT) : ME := fun env st => (a env st).bind fun c st1 => .ok (.bl c) st1
def mIf (c : MT) (a b : ME) : ME := fun env st => (c env st).bind fun k st1 => if k = true then a env st1 else b env st1
variable {tt tu : TT} {mt mu : MT}
theorem sim_testB (ha : SimE T W ta ma) : SimT T W (tB ta) (mTest ma) := fun as H σ env st Q e w h =>
  ha as H σ env st _ e w (Post.imp h fun d st1 as1 H1 x _ s1 w1 r1 h1 => by
    cases d with
    | bl b => exact ⟨b, r1, h1 as1 H1 b .refl w1 rfl⟩
    | _ => exact h1.elim)
theorem sim_testT (ha : SimE T W ta ma) : SimT T W (tTest ta) (mTest ma) := fun as H σ env st Q e w h =>
  ha as H σ env st _ e w (Post.imp h fun d st1 as1 H1 x _ s1 w1 r1 h1 => by
    cases d with
    | bl b => exact ⟨b, r1, h1 as1 H1 b .refl w1 rfl⟩
    | _ => exact h1.elim)
theorem sim_and (ha : SimT T W tt mt) (hb : SimT T W tu mu) : SimT T W (tAnd tt tu) (mAnd mt mu) := fun as H σ env st Q e w h =>
  ha as H σ env st _ e w (Post.imp h fun c st1 as1 H1 b _ s1 w1 r1 h1 => by
    cases r1
    cases c with
    | true => exact hb as1 H1 σ env st1 Q (e.mono s1) w1 h1
    | false => exact h1 as1 H1 false .refl w1 rfl)
theorem sim_or (ha : SimT T W tt mt) (hb : SimT T W tu mu) : SimT T W (tOr tt tu) (mOr mt mu) := fun as H σ env st Q e w h =>
  ha as H σ env st _ e w (Post.imp h fun c st1 as1 H1 b _ s1 w1 r1 h1 => by
    cases r1
    cases c with
    | false => exact hb as1 H1 σ env st1 Q (e.mono s1) w1 h1
    | true => exact h1 as1 H1 true .refl w1 rfl)
theorem sim_not (ha : SimT T W tt mt) : SimT T W (tNot tt) (mNot mt) := fun as H σ env st Q e w h =>
  ha as H σ env st _ e w (Post.imp h fun c st1 as1 H1 b _ s1 w1 r1 h1 => by
    cases r1
    exact h1 as1 H1 (!c) .refl w1 rfl)
/-- and, or, not as values: a test's mirror, told as data -/
def mAndV (a b : ME) : ME := fun env st => (a env st).bind fun d st1 => match d with
  | .bl c => if c = true then b env st1 else .ok (.bl false) st1
  | _ => .stuck
def mOrV (a b : ME) : ME := fun env st => (a env st).bind fun d st1 => match d with
  | .bl c => if c = true then .ok (.bl true) st1 else b env st1
  | _ => .stuck
def mNotV (a : ME) : ME := fun env st => (a env st).bind fun d st1 => match d with
  | .bl c => .ok (.bl (!c)) st1
  | _ => .stuck
theorem sim_andV (ha : SimE T W ta ma) (hb : SimE T W tb mb) : SimE T W (tAndV ta tb) (mAndV ma mb) := fun as H σ env st Q e w h =>
  ha as H σ env st _ e w (Post.imp h fun d st1 as1 H1 x _ s1 w1 r1 h1 => by
    cases d with
    | bl c =>
      refine ⟨c, r1, ?_⟩
      cases c with
      | true => exact hb as1 H1 σ env st1 Q (e.mono s1) w1 h1
      | false => exact h1 as1 H1 (.bl false) .refl w1 rfl
    | _ => exact h1.elim)
theorem sim_orV (ha : SimE T W ta ma) (hb : SimE T W tb mb) : SimE T W (tOrV ta tb) (mOrV ma mb) := fun as H σ env st Q e w h =>
  ha as H σ env st _ e w (Post.imp h fun d st1 as1 H1 x _ s1 w1 r1 h1 => by
    cases d with
    | bl c =>
      refine ⟨c, r1, ?_⟩
      cases c with
      | false => exact hb as1 H1 σ env st1 Q (e.mono s1) w1 h1
      | true => exact h1 as1 H1 (.bl true) .refl w1 rfl
    | _ => exact h1.elim)
theorem sim_notV (ha : SimE T W ta ma) : SimE T W (tNotV ta) (mNotV ma) := fun as H σ env st Q e w h =>
  ha as H σ env st _ e w (Post.imp h fun d st1 as1 H1 x _ s1 w1 r1 h1 => by
    cases d with
    | bl c => exact ⟨c, r1, h1 as1 H1 (.bl (!c)) .refl w1 rfl⟩
    | _ => exact h1.elim)
theorem sim_if (hc : SimT T W tt mt) (ha : SimE T W ta ma) (hb : SimE T W tb mb) : SimE T W (tIf tt ta tb) (mIf mt ma mb) := fun as H σ env st Q e w h =>
  hc as H σ env st _ e w (Post.imp h fun c st1 as1 H1 b _ s1 w1 r1 h1 => by
    cases r1
    cases c with
    | true => exact ha as1 H1 σ env st1 Q (e.mono s1) w1 h1
    | false => exact hb as1 H1 σ env st1 Q (e.mono s1) w1 h1)
end
end DL
end
section
set_option Elab.async false
set_option linter.all false
set_option maxRecDepth 100000
set_option maxHeartbeats 2000000
namespace DL
open PySem L2

/-! ### statements -/
inductive Fl where
  | nx (env : DEnv) | rt (d : D) | bk (env : DEnv) | ct (env : DEnv)
inductive SRes where
  | fl (f : Fl) (st : Store)
  | exc (c : Nat) (fs : List (Str × D)) (env : DEnv) (st : Store)
  | stuck
abbrev MS := DEnv → Store → SRes
def Res.to {α : Type} (r : Res α) (env : DEnv) (k : α → Store → SRes) : SRes := match r with
  | .ok a st => k a st
  | .exc c fs st => .exc c fs env st
  | .stuck => .stuck
def PostS (T : Tb) (as : Wd) (H : Hp) (r : SRes) (D : Ends) (W : St → XK) : Prop := match r with
  | .fl (.nx env) st => ∀ w2 H' σ, Step as H w2 H' → WH T w2 H' st → EnvR T w2 H' env σ → D.nx σ H'
  | .fl (.rt d) st => ∀ w2 H' v, Step as H w2 H' → WH T w2 H' st → Rep T w2 H' d v → D.rt v H'
  | .fl (.bk env) st => ∀ w2 H' σ, Step as H w2 H' → WH T w2 H' st → EnvR T w2 H' env σ → D.bk σ H'
  | .fl (.ct env) st => ∀ w2 H' σ, Step as H w2 H' → WH T w2 H' st → EnvR T w2 H' env σ → D.ct σ H'
  | .exc c fs env st => ∀ w2 H' σ cls dx, Step as H w2 H' → WH T w2 H' st → EnvR T w2 H' env σ → XRep T w2 H' c fs cls dx → W σ cls dx H'
  | .stuck => False
theorem PostS.mono {T : Tb} {as w2 : Wd} {H H' : Hp} {r : SRes} {D : Ends} {W : St → XK} (x : Step as H w2 H') (h : PostS T as H r D W) : PostS T w2 H' r D W := by
  cases r with
  | fl f st =>
    cases f with
    | nx env => exact fun a2 H2 v s w q => h a2 H2 v (x.trans s) w q
    | rt d => exact fun a2 H2 v s w q => h a2 H2 v (x.trans s) w q
    | bk env => exact fun a2 H2 v s w q => h a2 H2 v (x.trans s) w q
    | ct env => exact fun a2 H2 v s w q => h a2 H2 v (x.trans s) w q
  | exc c fs env st => exact fun a2 H2 v cls dx s w q r => h a2 H2 v cls dx (x.trans s) w q r
  | stuck => exact h
theorem PostS.imp {α β : Type} {T : Tb} {R : Wd → Hp → α → β → Prop} {as : Wd} {H : Hp} {env : DEnv} {σ : St} {r : Res α} {k : α → Store → SRes} {D : Ends} {W : St → XK} {Q' : β → Hp → Prop} (e : EnvR T as H env σ)
    (h : PostS T as H (r.to env k) D W) (hk : ∀ a st w2 H' v, r = .ok a st → Step as H w2 H' → WH T w2 H' st → R w2 H' a v → PostS T w2 H' (k a st) D W → Q' v H') : Post T R as H r Q' (W σ) := by
  cases r with
  | ok a st => exact fun a2 H2 v s w q => hk a st a2 H2 v rfl s w q (PostS.mono (r := k a st) s h)
  | exc c fs st => exact fun a2 H2 cls dx s w q => h a2 H2 σ cls dx s w (e.mono s) q
  | stuck => exact h
def SimS (T : Tb) (W : St → XK) (t : TS) (m : MS) : Prop := ∀ as H σ env st D, EnvR T as H env σ → WH T as H st → PostS T as H (m env st) D W → t D σ H
/-- a target: its store -/
abbrev MG := D → DEnv → Store → Option DEnv
def SimG (T : Tb) (g : TG) (m : MG) : Prop := ∀ as H σ env st d v (Q : St → Hp → Prop), EnvR T as H env σ → WH T as H st → Rep T as H d v →
  (match m d env st with
    | some env' => ∀ w2 H' σ', Step as H w2 H' → WH T w2 H' st → EnvR T w2 H' env' σ' → Q σ' H'
    | none => False) → g v σ H Q
abbrev MGs := List D → DEnv → Store → Option DEnv
def SimGs (T : Tb) (g : TGs) (m : MGs) : Prop := ∀ as H σ env st ds vs (Q : St → Hp → Prop), EnvR T as H env σ → WH T as H st → Reps T as H ds vs →
  (match m ds env st with
    | some env' => ∀ w2 H' σ', Step as H w2 H' → WH T w2 H' st → EnvR T w2 H' env' σ' → Q σ' H'
    | none => False) → g vs σ H Q
def gvName (i : Nat) : MG := fun d env _ => some (env.set i (some d))
def gvNil : MGs := fun ds env _ => match ds with
  | [] => some env
  | _ => none
def gvCons (g : MG) (r : MGs) : MGs := fun ds env st => match ds with
  | d :: ds => (g d env st).bind fun env1 => r ds env1 st
  | _ => none
def gvTup (n : Nat) (g : MGs) : MG := fun d env st => match d.tp with
  | .tup ds => if ds.length = n then g ds env st else none
  | _ => none

def msNext : MS := fun env st => .fl (.nx env) st
def msSeq (a b : MS) : MS := fun env st => match a env st with
  | .fl (.nx env1) st1 => b env1 st1
  | r => r
def msRet (m : ME) : MS := fun env st => (m env st).to env fun d st1 => .fl (.rt d) st1
def msRetN : MS := fun _ st => .fl (.rt .non) st
def msSet (i : Nat) (m : ME) : MS := fun env st => (m env st).to env fun d st1 => .fl (.nx (env.set i (some d))) st1
def msAsg (m : ME) (g : MG) : MS := fun env st => (m env st).to env fun d st1 => match g d env st1 with
  | some env1 => .fl (.nx env1) st1
  | none => .stuck
def msIf (c : MT) (a b : MS) : MS := fun env st => (c env st).to env fun k st1 => if k = true then a env st1 else b env st1
def msDrop (m : ME) : MS := fun env st => (m env st).to env fun _ st1 => .fl (.nx env) st1
def msBrk : MS := fun env st => .fl (.bk env) st
def msCt : MS := fun env st => .fl (.ct env) st
section
variable {T : Tb} {W : St → XK} {te : TE} {me : ME} {ts tu : TS} {ms mu : MS} {tt : TT} {mt : MT} {g : TG} {mg : MG}
theorem simg_name {i : Nat} : SimG T (gName i) (gvName i) := fun as H σ env st d v Q e w r h => h as H _ .refl w (e.set i r)
theorem simg_nil : SimGs T gNil gvNil := fun as H σ env st ds vs Q e w r h => by
  cases ds with
  | nil => exact ⟨r, h as H σ .refl w e⟩
  | cons d ds => exact h.elim
theorem simg_cons {gs : TGs} {mgs : MGs} (h1 : SimG T g mg) (h2 : SimGs T gs mgs) : SimGs T (gCons g gs) (gvCons mg mgs) := fun as H σ env st ds vs Q e w r h => by
  cases ds with
  | nil => exact h.elim
  | cons d ds =>
    obtain ⟨v, q, e1, r1, r2⟩ := r
    refine ⟨v, q, e1, h1 as H σ env st d v _ e w r1 ?_⟩
    unfold gvCons at h
    dsimp only at h
    cases q1 : mg d env st with
    | none => rw [q1] at h; exact h.elim
    | some env1 =>
      rw [q1] at h
      intro w2 H' σ' s w' e'
      refine h2 w2 H' σ' env1 st ds q Q e' w' (Reps.mono s _ _ r2) ?_
      simp only [Option.bind_some] at h
      cases q2 : mgs ds env1 st with
      | none => rw [q2] at h; exact h.elim
      | some env2 =>
        rw [q2] at h
        exact fun w3 H3 σ3 s3 w3' e3 => h w3 H3 σ3 (s.trans s3) w3' e3
theorem simg_tup {n : Nat} {gs : TGs} {mgs : MGs} (h1 : SimGs T gs mgs) : SimG T (gTup T.K n gs) (gvTup n mgs) := fun as H σ env st d v Q e w r h => by
  unfold gvTup at h
  have r := r.tp
  generalize d.tp = d at h r
  cases d with
  | tup ds =>
    obtain ⟨a, vs, e1, ht, r1⟩ := r
    by_cases hl : ds.length = n
    · simp only [hl, if_true] at h
      exact ⟨a, vs, e1, ht.sq, by rw [← r1.len]; exact hl, h1 as H σ env st ds vs Q e w r1 h⟩
    · simp only [hl, if_false] at h
  | _ => exact h.elim
theorem sims_next : SimS T W tNext msNext := fun as H σ env st D e w h => h as H σ .refl w e
theorem sims_seq (h1 : SimS T W ts ms) (h2 : SimS T W tu mu) : SimS T W (tSeq ts tu) (msSeq ms mu) := fun as H σ env st D e w h => by
  refine h1 as H σ env st { D with nx := tu D } e w ?_
  unfold msSeq at h
  cases q : ms env st with
  | fl f st1 =>
    rw [q] at h
    cases f with
    | nx env1 => exact fun w2 H' σ' s w' e' => h2 w2 H' σ' env1 st1 D e' w' (h.mono s)
    | rt d => exact h
    | bk env1 => exact h
    | ct env1 => exact h
  | exc c fs env1 st1 => rw [q] at h; exact h
  | stuck => rw [q] at h; exact h
theorem sims_ret (h1 : SimE T W te me) : SimS T W (tRet te) (msRet me) := fun as H σ env st D e w h =>
  h1 as H σ env st D.rt e w (PostS.imp e h fun d st1 w2 H' v _ s w' r h' => h' w2 H' v .refl w' r)
theorem sims_retN : SimS T W tRetN msRetN := fun as H σ env st D e w h => h as H .non .refl w rfl
theorem sims_asg (h1 : SimE T W te me) (h2 : SimG T g mg) : SimS T W (tAsg te g) (msAsg me mg) := fun as H σ env st D e w h =>
  h1 as H σ env st _ e w (PostS.imp e h fun d st1 w2 H' v _ s w' r h' => h2 w2 H' σ env st1 d v D.nx (e.mono s) w' r (by
    cases q : mg d env st1 with
    | none => rw [q] at h'; exact h'.elim
    | some env1 => rw [q] at h'; exact h'))
theorem sims_set {i : Nat} (h1 : SimE T W te me) : SimS T W (tAsg te (gName i)) (msSet i me) := fun as H σ env st D e w h =>
  h1 as H σ env st _ e w (PostS.imp e h fun d st1 w2 H' v _ s w' r h' => h' w2 H' _ .refl w' ((e.mono s).set i r))
theorem sims_if (hc : SimT T W tt mt) (h1 : SimS T W ts ms) (h2 : SimS T W tu mu) : SimS T W (tIfS tt ts tu) (msIf mt ms mu) := fun as H σ env st D e w h =>
  hc as H σ env st _ e w (PostS.imp e h fun c st1 w2 H' b _ s w' r h' => by
    cases r
    cases c with
    | true => exact h1 w2 H' σ env st1 D (e.mono s) w' h'
    | false => exact h2 w2 H' σ env st1 D (e.mono s) w' h')
theorem sims_drop (h1 : SimE T W te me) : SimS T W (tDrop te) (msDrop me) := fun as H σ env st D e w h =>
  h1 as H σ env st _ e w (PostS.imp e h fun d st1 w2 H' v _ s w' r h' => h' w2 H' σ .refl w' (e.mono s))
theorem sims_brk : SimS T W tBreak msBrk := fun as H σ env st D e w h => h as H σ .refl w e
theorem sims_ct : SimS T W tCont msCt := fun as H σ env st D e w h => h as H σ .refl w e

/-! ### what is walked -/
inductive Src where
  /-- these items, whatever comes -/
  | fix (ds : List D)
  /-- the list that may change, as it stands at each turn -/
  | live (j : Nat)
def IterOk (T : Tb) (as : Wd) (H : Hp) (src : Src) (J : It) : Prop := match src with
  | .fix ds => ∀ w2 H' st, Step as H w2 H' → WH T w2 H' st →
      (∀ (i : Nat) d, ds[i]? = some d → J.go i H' ∧ ∀ x H2, J.yld i H' x H2 → Step w2 H' w2 H2 ∧ WH T w2 H2 st ∧ Rep T w2 H2 d x) ∧ ∀ i, ds.length ≤ i → J.stop i H'
  | .live j => ∀ w2 H' st ds, Step as H w2 H' → WH T w2 H' st → st[j]? = some (.lst ds) →
      (∀ (i : Nat) d, ds[i]? = some d → J.go i H' ∧ ∀ x H2, J.yld i H' x H2 → Step w2 H' w2 H2 ∧ WH T w2 H2 st ∧ Rep T w2 H2 d x) ∧ ∀ i, ds.length ≤ i → J.stop i H'
abbrev MI := DEnv → Store → Res Src
def SimI (T : Tb) (W : St → XK) (wi : TI) (m : MI) : Prop := ∀ as H σ env st (R : It → Hp → Prop), EnvR T as H env σ → WH T as H st → Post T (IterOk T) as H (m env st) R (W σ) → wi σ H R

def stepF (g : MG) (b : MS) (d : D) : MS := fun env st => match g d env st with
  | some env1 => b env1 st
  | none => .stuck
def forFix (b : D → MS) : List D → MS
  | [], env, st => .fl (.nx env) st
  | d :: ds, env, st => match b d env st with
    | .fl (.nx env1) st1 => forFix b ds env1 st1
    | .fl (.ct env1) st1 => forFix b ds env1 st1
    | .fl (.bk env1) st1 => .fl (.nx env1) st1
    | r => r
def forLive (b : D → MS) (j : Nat) : Nat → Nat → MS
  | 0, _, _, _ => .stuck
  | f + 1, i, env, st => match st[j]? with
    | some (.lst ds) => match ds[i]? with
      | none => .fl (.nx env) st
      | some d => match b d env st with
        | .fl (.nx env1) st1 => forLive b j f (i + 1) env1 st1
        | .fl (.ct env1) st1 => forLive b j f (i + 1) env1 st1
        | .fl (.bk env1) st1 => .fl (.nx env1) st1
        | r => r
    | _ => .stuck
def forSrc (b : D → MS) : Src → MS
  | .fix ds => forFix b ds
  | .live j => forLive b j 100000 0
def msFor (mi : MI) (g : MG) (b : MS) : MS := fun env st => (mi env st).to env fun src st1 => forSrc (stepF g b) src env st1
def whileL (c : MT) (b : MS) : Nat → MS
  | 0, _, _ => .stuck
  | f + 1, env, st => (c env st).to env fun k st1 => if k = true then (match b env st1 with
      | .fl (.nx env1) st2 => whileL c b f env1 st2
      | .fl (.ct env1) st2 => whileL c b f env1 st2
      | .fl (.bk env1) st2 => .fl (.nx env1) st2
      | r => r) else .fl (.nx env) st1
def msWhile (c : MT) (b : MS) : MS := whileL c b 100000

theorem sims_for {wi : TI} {mi : MI} (hi : SimI T W wi mi) (hg : SimG T g mg) (hb : SimS T W ts ms) : SimS T W (tFor wi g ts) (msFor mi mg ms) := fun as H σ env st D e w h => by
  refine hi as H σ env st _ e w (PostS.imp e h fun src st1 w1 H1 J _ s1 q1 ok h1 => ?_)
  -- a turn: what the body is to reach, by what the rest of the loop asks
  have turn : ∀ (N : St → Hp → Prop) (K : DEnv → Store → SRes) (d : DL.D) (x : V) (w2 : Wd) (H2 : Hp) (env2 : DEnv) (st2 : Store) (σ2 : St),
      EnvR T w2 H2 env2 σ2 → WH T w2 H2 st2 → Rep T w2 H2 d x →
      PostS T w2 H2 (match stepF mg ms d env2 st2 with
        | .fl (.nx env1) st1 => K env1 st1
        | .fl (.ct env1) st1 => K env1 st1
        | .fl (.bk env1) st1 => .fl (.nx env1) st1
        | r => r) D W →
      (∀ w3 H3 env3 st3 σ3, Step w2 H2 w3 H3 → WH T w3 H3 st3 → EnvR T w3 H3 env3 σ3 → PostS T w3 H3 (K env3 st3) D W → N σ3 H3) →
      (g : V → St → Hp → (St → Hp → Prop) → Prop) x σ2 H2 (fun σ3 H3 => ts { D with nx := N, ct := N, bk := D.nx } σ3 H3) := by
    intro N K d x w2 H2 env2 st2 σ2 e2 q2 r2 h2 hN
    refine hg w2 H2 σ2 env2 st2 d x _ e2 q2 r2 ?_
    unfold stepF at h2
    cases c : mg d env2 st2 with
    | none => rw [c] at h2; exact h2
    | some env3 =>
      rw [c] at h2
      intro w3 H3 σ3 s3 q3 e3
      refine hb w3 H3 σ3 env3 st2 _ e3 q3 ?_
      simp only at h2
      cases c2 : ms env3 st2 with
      | fl f st4 =>
        rw [c2] at h2
        cases f with
        | nx env4 => exact fun w4 H4 σ4 s4 q4 e4 => hN w4 H4 env4 st4 σ4 (s3.trans s4) q4 e4 (h2.mono (s3.trans s4))
        | ct env4 => exact fun w4 H4 σ4 s4 q4 e4 => hN w4 H4 env4 st4 σ4 (s3.trans s4) q4 e4 (h2.mono (s3.trans s4))
        | bk env4 => exact fun w4 H4 σ4 s4 q4 e4 => h2 w4 H4 σ4 (s3.trans s4) q4 e4
        | rt d4 => exact fun w4 H4 v s4 q4 r4 => h2 w4 H4 v (s3.trans s4) q4 r4
      | exc cc fs env4 st4 => rw [c2] at h2; exact fun w4 H4 σ4 cls dx s4 q4 e4 x4 => h2 w4 H4 σ4 cls dx (s3.trans s4) q4 e4 x4
      | stuck => rw [c2] at h2; exact h2
  cases src with
  | fix ds =>
    let I : Nat → St → Hp → Prop := fun i σ' H' => ∃ w2 env2 st2, Step w1 H1 w2 H' ∧ WH T w2 H' st2 ∧ EnvR T w2 H' env2 σ' ∧ PostS T w2 H' (forFix (stepF mg ms) (ds.drop i) env2 st2) D W
    refine ⟨fun i m σ' H' => m = ds.length - i ∧ I i σ' H', ⟨_, rfl, w1, env, st1, .refl, q1, e.mono s1, h1⟩, ?_⟩
    rintro i m σ2 H2 ⟨rfl, w2, env2, st2, s2, q2, e2, h2⟩
    obtain ⟨go, stop⟩ := ok w2 H2 st2 s2 q2
    by_cases hl : i < ds.length
    · have ed : ds.drop i = ds[i] :: ds.drop (i + 1) := by rw [List.drop_eq_getElem_cons hl]
      rw [ed] at h2
      obtain ⟨g1, g2⟩ := go i ds[i] (by simp [hl])
      refine .inr ⟨g1, I (i + 1), fun σ' H' p => ⟨ds.length - (i + 1), by omega, rfl, p⟩, fun x H3 y => ?_⟩
      obtain ⟨s3, q3, r3⟩ := g2 x H3 y
      refine turn (I (i + 1)) (forFix (stepF mg ms) (ds.drop (i + 1))) ds[i] x w2 H3 env2 st2 σ2 (e2.mono s3) q3 r3 (PostS.mono s3 h2) ?_
      intro w4 H4 env4 st4 σ4 s4 q4 e4 h4
      exact ⟨w4, env4, st4, (s2.trans s3).trans s4, q4, e4, h4⟩
    · rw [List.drop_eq_nil_of_le (by omega)] at h2
      exact .inl ⟨stop i (by omega), h2 w2 H2 σ2 .refl q2 e2⟩
  | live j =>
    let I : Nat → Nat → St → Hp → Prop := fun i m σ' H' => ∃ w2 env2 st2, Step w1 H1 w2 H' ∧ WH T w2 H' st2 ∧ EnvR T w2 H' env2 σ' ∧ PostS T w2 H' (forLive (stepF mg ms) j m i env2 st2) D W
    refine ⟨I, ⟨_, w1, env, st1, .refl, q1, e.mono s1, h1⟩, ?_⟩
    rintro i m σ2 H2 ⟨w2, env2, st2, s2, q2, e2, h2⟩
    cases m with
    | zero => exact h2.elim
    | succ m =>
      unfold forLive at h2
      cases c : st2[j]? with
      | none => rw [c] at h2; exact h2.elim
      | some mo =>
        rw [c] at h2
        cases mo with
        | lst ds =>
          simp only at h2
          obtain ⟨go, stop⟩ := ok w2 H2 st2 ds s2 q2 c
          cases c2 : ds[i]? with
          | none =>
            rw [c2] at h2
            exact .inl ⟨stop i (List.getElem?_eq_none_iff.mp c2), h2 w2 H2 σ2 .refl q2 e2⟩
          | some d =>
            rw [c2] at h2
            obtain ⟨g1, g2⟩ := go i d c2
            refine .inr ⟨g1, I (i + 1) m, fun σ' H' p => ⟨m, by omega, p⟩, fun x H3 y => ?_⟩
            obtain ⟨s3, q3, r3⟩ := g2 x H3 y
            refine turn (I (i + 1) m) (forLive (stepF mg ms) j m (i + 1)) d x w2 H3 env2 st2 σ2 (e2.mono s3) q3 r3 (PostS.mono s3 h2) ?_
            intro w4 H4 env4 st4 σ4 s4 q4 e4 h4
            exact ⟨w4, env4, st4, (s2.trans s3).trans s4, q4, e4, h4⟩
        | dic kvs => exact h2.elim
        | ins c fs => exact h2.elim
theorem sims_while (hc : SimT T W tt mt) (hb : SimS T W ts ms) : SimS T W (tWhile tt ts) (msWhile mt ms) := fun as H σ env st D e w h => by
  let I : Nat → St → Hp → Prop := fun m σ' H' => ∃ w2 env2 st2, WH T w2 H' st2 ∧ EnvR T w2 H' env2 σ' ∧ PostS T w2 H' (whileL mt ms m env2 st2) D W
  refine ⟨I, ⟨_, as, env, st, w, e, h⟩, ?_⟩
  rintro m σ2 H2 ⟨w2, env2, st2, q2, e2, h2⟩
  cases m with
  | zero => exact h2.elim
  | succ m =>
    unfold whileL at h2
    refine hc w2 H2 σ2 env2 st2 _ e2 q2 (PostS.imp e2 h2 fun k st3 w3 H3 b _ s3 q3 r3 h3 => ?_)
    cases r3
    cases k with
    | false => exact h3 w3 H3 σ2 .refl q3 (e2.mono s3)
    | true =>
      simp only [if_true] at h3 ⊢
      refine ⟨I m, fun σ' H' p => ⟨m, by omega, p⟩, ?_⟩
      refine hb w3 H3 σ2 env2 st3 _ (e2.mono s3) q3 ?_
      cases c2 : ms env2 st3 with
      | fl f st4 =>
        rw [c2] at h3
        cases f with
        | nx env4 => exact fun w4 H4 σ4 s4 q4 e4 => ⟨w4, env4, st4, q4, e4, PostS.mono s4 h3⟩
        | ct env4 => exact fun w4 H4 σ4 s4 q4 e4 => ⟨w4, env4, st4, q4, e4, PostS.mono s4 h3⟩
        | bk env4 => exact h3
        | rt d4 => exact h3
      | exc cc fs env4 st4 => rw [c2] at h3; exact h3
      | stuck => rw [c2] at h3; exact h3
end
end DL
end
section
set_option Elab.async false
set_option linter.all false
set_option maxRecDepth 100000
set_option maxHeartbeats 2000000
namespace DL
open PySem L2

/-! ### comprehensions -/
theorem wipe_in {σ : St} {j : Nat} : ∀ {vs : List Nat}, j ∈ vs → (wipe σ vs)[j]? = if j < σ.length then some none else none
  | v :: vs, h => by
    unfold wipe
    by_cases e : v = j
    · subst e
      by_cases hl : v < σ.length
      · rw [if_pos hl, List.getElem?_set_self (by rw [wipe_length]; exact hl)]
      · rw [if_neg hl, List.getElem?_eq_none (by simp only [List.length_set, wipe_length]; omega)]
    · rw [List.getElem?_set_ne e]
      exact wipe_in ((List.mem_cons.mp h).resolve_left fun z => e z.symm)
theorem wipe_eq {σ τ : St} {vs : List Nat} (hl : σ.length = τ.length) (h : ∀ j, j ∉ vs → σ[j]? = τ[j]?) : wipe σ vs = wipe τ vs := by
  apply List.ext_getElem?
  intro j
  by_cases hj : j ∈ vs
  · rw [wipe_in hj, wipe_in hj, hl]
  · rw [wipe_out hj, wipe_out hj, h j hj]
theorem wipe_wipe (σ : St) (vs : List Nat) : wipe (wipe σ vs) vs = wipe σ vs := wipe_eq (wipe_length _ _) fun j h => wipe_out h
theorem wipe_set {σ : St} {i : Nat} {x : Option V} {vs : List Nat} (h : i ∈ vs) : wipe (σ.set i x) vs = wipe σ vs :=
  wipe_eq (by simp) fun j hj => by rw [List.getElem?_set_ne fun e => hj (by rw [← e]; exact h)]
def wipeD (env : DEnv) : List Nat → DEnv
  | [] => env
  | v :: vs => (wipeD env vs).set v none
theorem EnvR.wipe {T : Tb} {as : Wd} {H : Hp} {env : DEnv} {σ : St} (h : EnvR T as H env σ) : ∀ vs, EnvR T as H (wipeD env vs) (L2.wipe σ vs)
  | [] => h
  | v :: vs => by
    have ih := h.wipe vs
    unfold wipeD L2.wipe
    refine ⟨by simp [ih.1], fun j e hj => ?_⟩
    by_cases q : v = j
    · subst q
      by_cases hl : v < (wipeD env vs).length
      · rw [List.getElem?_set_self hl] at hj; cases hj
      · rw [List.getElem?_eq_none (by simpa using hl)] at hj; cases hj
    · rw [List.getElem?_set_ne q] at hj ⊢
      exact ih.2 j e hj
/-- what a target stores, lies in these slots -/
def Foot (g : TG) (vs : List Nat) : Prop := ∀ v σ H Q, g v σ H Q → g v σ H fun σ' H' => Q σ' H' ∧ L2.wipe σ' vs = L2.wipe σ vs
def Foots (g : TGs) (vs : List Nat) : Prop := ∀ v σ H Q, g v σ H Q → g v σ H fun σ' H' => Q σ' H' ∧ L2.wipe σ' vs = L2.wipe σ vs
theorem foot_mono {g : TG} : (∀ v σ H (Q Q' : St → Hp → Prop), (∀ a b, Q a b → Q' a b) → g v σ H Q → g v σ H Q') → True := fun _ => trivial
theorem foot_name {i : Nat} {vs : List Nat} (h : i ∈ vs := by decide) : Foot (gName i) vs := fun v σ H Q q => ⟨q, wipe_set h⟩
theorem foot_nil {vs : List Nat} : Foots gNil vs := fun v σ H Q q => ⟨q.1, q.2, rfl⟩
structure GMono (g : TG) : Prop where
  mono : ∀ v σ H (Q Q' : St → Hp → Prop), (∀ a b, Q a b → Q' a b) → g v σ H Q → g v σ H Q'
structure GMonos (g : TGs) : Prop where
  mono : ∀ v σ H (Q Q' : St → Hp → Prop), (∀ a b, Q a b → Q' a b) → g v σ H Q → g v σ H Q'
theorem gm_name {i : Nat} : GMono (gName i) := ⟨fun _ _ _ _ _ h q => h _ _ q⟩
theorem gm_nil : GMonos gNil := ⟨fun _ _ _ _ _ h q => ⟨q.1, h _ _ q.2⟩⟩
theorem gm_cons {g : TG} {gs : TGs} (a : GMono g) (b : GMonos gs) : GMonos (gCons g gs) := ⟨fun v σ H Q Q' h q => by
  obtain ⟨x, r, e, q⟩ := q
  exact ⟨x, r, e, a.mono _ _ _ _ _ (fun σ' H' q => b.mono _ _ _ _ _ h q) q⟩⟩
theorem gm_tup {K : PySem.W.Frag} {n : Nat} {gs : TGs} (b : GMonos gs) : GMono (gTup K n gs) := ⟨fun v σ H Q Q' h q => by
  obtain ⟨a, xs, e, h1, h2, q⟩ := q
  exact ⟨a, xs, e, h1, h2, b.mono _ _ _ _ _ h q⟩⟩
theorem foot_cons {g : TG} {gs : TGs} {vs : List Nat} (ma : GMono g) (a : Foot g vs) (b : Foots gs vs) : Foots (gCons g gs) vs := fun v σ H Q q => by
  obtain ⟨x, r, e, q⟩ := q
  refine ⟨x, r, e, ma.mono _ _ _ _ _ (fun σ' H' z => ?_) (a x σ H _ q)⟩
  have := b r σ' H' Q z.1
  rw [z.2] at this
  exact this
theorem foot_tup {K : PySem.W.Frag} {n : Nat} {gs : TGs} {vs : List Nat} (b : Foots gs vs) : Foot (gTup K n gs) vs := fun v σ H Q q => by
  obtain ⟨a, xs, e, h1, h2, q⟩ := q
  exact ⟨a, xs, e, h1, h2, b xs σ H Q q⟩

def Res.nox {α : Type} : Res α → Res α
  | .exc _ _ _ => .stuck
  | r => r
def mYes : MT := fun _ st => .ok true st
theorem sim_yes {T : Tb} {W : St → XK} : SimT T W tYes mYes := fun as H σ env st Q e w h => h as H true .refl w rfl
def lcGo (g : MG) (t : MT) (m : ME) : List D → DEnv → Store → Res (List D)
  | [], _, st => .ok [] st
  | d :: ds, env, st => match g d env st with
    | none => .stuck
    | some env1 => ((t env1 st).nox).bind fun c st1 => if c = true then ((m env1 st1).nox).bind fun y st2 => (lcGo g t m ds env st2).bind fun r st3 => .ok (y :: r) st3 else lcGo g t m ds env st1
def lcLive (g : MG) (t : MT) (m : ME) (j : Nat) : Nat → Nat → DEnv → Store → Res (List D)
  | 0, _, _, _ => .stuck
  | f + 1, i, env, st => match st[j]? with
    | some (.lst ds) => match ds[i]? with
      | none => .ok [] st
      | some d => match g d env st with
        | none => .stuck
        | some env1 => ((t env1 st).nox).bind fun c st1 => if c = true then ((m env1 st1).nox).bind fun y st2 => (lcLive g t m j f (i + 1) env st2).bind fun r st3 => .ok (y :: r) st3 else lcLive g t m j f (i + 1) env st1
    | _ => .stuck
def lim : Nat := 1000000
theorem lim_lt : lim < sizeLine := by rw [sizeLine_eq]; decide
def lcSrc (g : MG) (t : MT) (m : ME) (src : Src) (env : DEnv) (st : Store) : Res (List D) := match src with
  | .fix ds => if ds.length ≤ lim then lcGo g t m ds env st else .stuck
  | .live j => lcLive g t m j lim 0 env st
def mLc (mi : MI) (g : MG) (t : MT) (m : ME) (vs : List Nat) : ME := fun env st => (mi env st).bind fun src st1 => (lcSrc g t m src (wipeD env vs) st1).bind fun r st2 => .ok (.lst r) st2
/-- a list that may change -/
def mLcM (mi : MI) (g : MG) (t : MT) (m : ME) (vs : List Nat) : ME := fun env st => (mi env st).bind fun src st1 => (lcSrc g t m src (wipeD env vs) st1).bind fun r st2 =>
  if D.lows st2.length r = true then .ok (.box st2.length) (st2 ++ [.lst r]) else .stuck
section
variable {T : Tb} {W : St → XK} {te : TE} {me : ME} {tt : TT} {mt : MT} {g : TG} {mg : MG} {wi : TI} {mi : MI} {vs : List Nat}
abbrev W0 : St → XK := fun _ => E0
theorem Post.nox {α β : Type} {R : Wd → Hp → α → β → Prop} {as : Wd} {H : Hp} {r : Res α} {Q : β → Hp → Prop} {E : XK} (h : Post T R as H r.nox Q E) : Post T R as H r Q E0 := by
  cases r with
  | ok a st => exact h
  | exc c fs st => exact h.elim
  | stuck => exact h
theorem reps_snoc {as : Wd} {H : Hp} {d : D} {v : V} (r : Rep T as H d v) : ∀ {ds : List D} {xs : List V}, Reps T as H ds xs → Reps T as H (ds ++ [d]) (xs ++ [v])
  | [], xs, h => by
    rw [show xs = [] from h]
    exact ⟨v, [], rfl, r, rfl⟩
  | e :: ds, xs, h => by
    obtain ⟨x, q, e1, r1, r2⟩ := h
    rw [e1]
    exact ⟨x, q ++ [v], rfl, r1, reps_snoc r r2⟩
/-- what the end asks: of the list made, and the state -/
def LcEnd (T : Tb) (w1 : Wd) (H1 : Hp) (k : List D → Store → Prop → Prop) : Prop := True
theorem lc_sim (K : Res (List D) → (VK → Prop)) (hi : SimI T W wi mi) (hg : SimG T g mg) (gm : GMono g) (gf : Foot g vs) (ht : SimT T W0 tt mt) (he : SimE T W0 te me)
    {as : Wd} {H : Hp} {σ : St} {env : DEnv} {st : Store} {Q : VK} (e : EnvR T as H env σ) (w : WH T as H st)
    {k : List D → Store → Res D} (h : Post T (Rep T) as H ((mi env st).bind fun src st1 => (lcSrc mg mt me src (wipeD env vs) st1).bind k) Q (W σ))
    (fin : ∀ w1 H1 ds st2 w2 H2 Dl xs, Step as H w1 H1 → H1 Dl = none → Dl ∉ w1.ps → Step w1 H1 w2 H2 → WH T w2 H2 st2 → Dl ∈ w2.ps → H2 Dl = some (.lst xs) → Reps T w2 H2 ds xs → Post T (Rep T) w1 H1 (k ds st2) Q (W σ) → Q (.ref Dl) H2) : tLc wi g tt te vs σ H Q := by
  refine hi as H σ env st _ e w (Post.imp h fun src st1 w1 H1 J _ s1 q1 ok h1 => ?_)
  intro Dl hD
  have e1 : EnvR T w1 H1 (wipeD env vs) (wipe σ vs) := (e.mono s1).wipe vs
  -- the start
  have s0 : Step w1 H1 ⟨w1.as, Dl :: w1.ps⟩ (upd H1 Dl (.lst [])) := Step.open q1 hD
  have q0 : WH T ⟨w1.as, Dl :: w1.ps⟩ (upd H1 Dl (.lst [])) st1 := q1.open hD
  have nD : Dl ∉ w1.ps := (q1.new hD).2
  let I : List D → Wd → Hp → Store → Prop := fun acc w2 H2 st2 => Step w1 H1 w2 H2 ∧ WH T w2 H2 st2 ∧ Dl ∈ w2.ps ∧ ∃ xs, H2 Dl = some (.lst xs) ∧ Reps T w2 H2 acc xs
  -- one turn: the item stored, the tests, the element; go on with what is left
  have turn : ∀ (d : D) (x : V) (acc : List D) (w2 : Wd) (H2 : Hp) (st2 : Store) (rest : Store → Res (List D)) (Nx : Hp → Prop), acc.length ≤ lim → I acc w2 H2 st2 → Rep T w2 H2 d x →
      Post T (Rep T) w1 H1 ((match mg d (wipeD env vs) st2 with
        | none => Res.stuck
        | some env1 => ((mt env1 st2).nox).bind fun c st1 => if c = true then ((me env1 st1).nox).bind fun y st2 => (rest st2).bind fun r st3 => .ok (y :: r) st3 else rest st1).bind fun r st3 => k (acc ++ r) st3) Q (W σ) →
      (∀ acc' w3 H3 st3, acc'.length ≤ acc.length + 1 → I acc' w3 H3 st3 → Post T (Rep T) w1 H1 ((rest st3).bind fun r st4 => k (acc' ++ r) st4) Q (W σ) → Nx H3) →
      (g : V → St → Hp → (St → Hp → Prop) → Prop) x (wipe σ vs) H2 (fun σ2 H3 => wipe σ2 vs = wipe σ vs ∧ tt σ2 H3 fun b H4 =>
        if b = true then te σ2 H4 fun y H5 => ∃ acc, H5 Dl = some (.lst acc) ∧ acc.length < sizeLine ∧ Nx (upd H5 Dl (.lst (acc ++ [y]))) else Nx H4) := by
    intro d x acc w2 H2 st2 rest Nx hlen hI r2 h2 hN
    obtain ⟨s2, q2, d2, xs, ex, rx⟩ := hI
    have e2 : EnvR T w2 H2 (wipeD env vs) (wipe σ vs) := e1.mono s2
    cases c : mg d (wipeD env vs) st2 with
    | none => rw [c] at h2; exact h2.elim
    | some env1 =>
      rw [c] at h2
      dsimp only at h2
      refine gm.mono _ _ _ _ _ (fun σ2 H3 z => ⟨z.2.trans (wipe_wipe σ vs), z.1⟩) (gf x (wipe σ vs) H2 _ (hg w2 H2 (wipe σ vs) (wipeD env vs) st2 d x _ e2 q2 r2 ?_))
      rw [c]
      intro w3 H3 σ3 s3 q3 e3
      refine ht w3 H3 σ3 env1 st2 _ e3 q3 ?_
      cases c2 : mt env1 st2 with
      | exc _ _ _ => rw [c2] at h2; exact h2.elim
      | stuck => rw [c2] at h2; exact h2.elim
      | ok b st3 =>
        rw [c2] at h2
        simp only [Res.nox, Res.bind] at h2
        intro w4 H4 b' s4 q4 hb
        cases hb
        have s24 := s3.trans s4
        cases b with
        | false =>
          simp only [Bool.false_eq_true, if_false] at h2 ⊢
          refine hN acc w4 H4 st3 (by omega) ⟨s2.trans s24, q4, ?_, xs, ?_, Reps.mono s24 _ _ rx⟩ ?_
          · obtain ⟨q, hq, _⟩ := s24.pend
            rw [hq]; exact List.mem_append_right _ d2
          · exact s24.keep _ _ (q2.pst Dl d2).1 ex
          · exact h2
        | true =>
          simp only [if_true] at h2 ⊢
          refine he w4 H4 σ3 env1 st3 _ (e3.mono s4) q4 ?_
          cases c3 : me env1 st3 with
          | exc _ _ _ => rw [c3] at h2; exact h2.elim
          | stuck => rw [c3] at h2; exact h2.elim
          | ok y st5 =>
            rw [c3] at h2
            simp only [Res.nox, Res.bind] at h2
            intro w5 H5 yv s5 q5 r5
            have s25 := s24.trans s5
            have d5 : Dl ∈ w5.ps := by
              obtain ⟨q, hq, _⟩ := s25.pend
              rw [hq]; exact List.mem_append_right _ d2
            have l1 : xs.length = acc.length := rx.len.symm
            refine ⟨xs, s25.keep _ _ (q2.pst Dl d2).1 ex, by have := lim_lt; omega, ?_⟩
            refine hN (acc ++ [y]) w5 _ st5 (by simp) ⟨(s2.trans s25).pending hD, q5.pend d5, d5, xs ++ [yv], upd_same, ?_⟩ ?_
            · exact Reps.kp (.pend d5) _ _ (reps_snoc r5 (Reps.mono s25 _ _ rx))
            · have e6 : ((rest st5).bind fun r st4 => k (acc ++ [y] ++ r) st4) = (((rest st5).bind fun r st3 => Res.ok (y :: r) st3).bind fun r st3 => k (acc ++ r) st3) := by
                cases rest st5 <;> simp [Res.bind]
              rw [e6]
              exact h2
  have bindk : ∀ r : Res (List D), (r.bind fun r st => k ([] ++ r) st) = r.bind k := fun r => by cases r <;> rfl
  cases src with
  | fix ds =>
    unfold lcSrc at h1
    by_cases hl : ds.length ≤ lim
    · simp only [hl, if_true] at h1
      let W' : Nat → Nat → Hp → Prop := fun i m H2 => m = ds.length - i ∧ ∃ acc w2 st2, acc.length ≤ i ∧ I acc w2 H2 st2 ∧ Post T (Rep T) w1 H1 ((lcGo mg mt me (ds.drop i) (wipeD env vs) st2).bind fun r st3 => k (acc ++ r) st3) Q (W σ)
      refine ⟨W', ⟨_, rfl, [], _, st1, Nat.le_refl _, ⟨s0, q0, List.mem_cons_self, [], upd_same, rfl⟩, by rw [List.drop_zero, bindk]; exact h1⟩, ?_⟩
      rintro i m H2 ⟨rfl, acc, w2, st2, ha, hI, h2⟩
      obtain ⟨s2, q2, d2, xs, ex, rx⟩ := id hI
      obtain ⟨go, stop⟩ := ok w2 H2 st2 s2 q2
      by_cases hi : i < ds.length
      · rw [show ds.drop i = ds[i] :: ds.drop (i + 1) from List.drop_eq_getElem_cons hi] at h2
        obtain ⟨g1, g2⟩ := go i ds[i] (by simp [hi])
        refine .inr ⟨g1, fun H' => ∃ acc w2 st2, acc.length ≤ i + 1 ∧ I acc w2 H' st2 ∧ Post T (Rep T) w1 H1 ((lcGo mg mt me (ds.drop (i + 1)) (wipeD env vs) st2).bind fun r st3 => k (acc ++ r) st3) Q (W σ), fun H' p => ⟨ds.length - (i + 1), by omega, rfl, p⟩, fun x H3 y => ?_⟩
        obtain ⟨s3, q3, r3⟩ := g2 x H3 y
        refine turn ds[i] x acc w2 H3 st2 (fun st => lcGo mg mt me (ds.drop (i + 1)) (wipeD env vs) st) _ (by omega) ⟨s2.trans s3, q3, d2, xs, s3.keep _ _ (q2.pst Dl d2).1 ex, Reps.mono s3 _ _ rx⟩ r3 h2 ?_
        intro acc' w4 H4 st4 l4 I4 h4
        exact ⟨acc', w4, st4, by omega, I4, h4⟩
      · rw [List.drop_eq_nil_of_le (by omega)] at h2
        refine .inl ⟨stop i (by omega), fin w1 H1 acc st2 w2 H2 Dl xs s1 hD nD s2 q2 d2 ex rx ?_⟩
        have h2' : Post T (Rep T) w1 H1 (k (acc ++ []) st2) Q (W σ) := h2
        rw [List.append_nil] at h2'
        exact h2'
    · simp only [hl, if_false] at h1
      exact h1.elim
  | live j =>
    unfold lcSrc at h1
    let W' : Nat → Nat → Hp → Prop := fun i m H2 => ∃ acc w2 st2, acc.length + m ≤ lim ∧ I acc w2 H2 st2 ∧ Post T (Rep T) w1 H1 ((lcLive mg mt me j m i (wipeD env vs) st2).bind fun r st3 => k (acc ++ r) st3) Q (W σ)
    refine ⟨W', ⟨lim, [], _, st1, by simp, ⟨s0, q0, List.mem_cons_self, [], upd_same, rfl⟩, by rw [bindk]; exact h1⟩, ?_⟩
    rintro i m H2 ⟨acc, w2, st2, ha, hI, h2⟩
    obtain ⟨s2, q2, d2, xs, ex, rx⟩ := id hI
    cases m with
    | zero => exact h2.elim
    | succ m =>
      unfold lcLive at h2
      cases c : st2[j]? with
      | none => rw [c] at h2; exact h2.elim
      | some mo =>
        rw [c] at h2
        cases mo with
        | lst ds =>
          dsimp only at h2
          obtain ⟨go, stop⟩ := ok w2 H2 st2 ds s2 q2 c
          cases c2 : ds[i]? with
          | none =>
            rw [c2] at h2
            refine .inl ⟨stop i (List.getElem?_eq_none_iff.mp c2), fin w1 H1 acc st2 w2 H2 Dl xs s1 hD nD s2 q2 d2 ex rx ?_⟩
            have h2' : Post T (Rep T) w1 H1 (k (acc ++ []) st2) Q (W σ) := h2
            rw [List.append_nil] at h2'
            exact h2'
          | some d =>
            rw [c2] at h2
            obtain ⟨g1, g2⟩ := go i d c2
            refine .inr ⟨g1, fun H' => ∃ acc w2 st2, acc.length + m ≤ lim ∧ I acc w2 H' st2 ∧ Post T (Rep T) w1 H1 ((lcLive mg mt me j m (i + 1) (wipeD env vs) st2).bind fun r st3 => k (acc ++ r) st3) Q (W σ), fun H' p => ⟨m, by omega, p⟩, fun x H3 y => ?_⟩
            obtain ⟨s3, q3, r3⟩ := g2 x H3 y
            refine turn d x acc w2 H3 st2 (fun st => lcLive mg mt me j m (i + 1) (wipeD env vs) st) _ (by omega) ⟨s2.trans s3, q3, d2, xs, s3.keep _ _ (q2.pst Dl d2).1 ex, Reps.mono s3 _ _ rx⟩ r3 h2 ?_
            intro acc' w4 H4 st4 l4 I4 h4
            exact ⟨acc', w4, st4, by omega, I4, h4⟩
        | dic kvs => exact h2.elim
        | ins c fs => exact h2.elim
theorem sim_lc (hi : SimI T W wi mi) (hg : SimG T g mg) (gm : GMono g) (gf : Foot g vs) (ht : SimT T W0 tt mt) (he : SimE T W0 te me) : SimE T W (tLc wi g tt te vs) (mLc mi mg mt me vs) := fun as H σ env st Q e w h =>
  lc_sim (fun _ _ => True) hi hg gm gf ht he e w h fun w1 H1 ds st2 w2 H2 Dl xs s1 hD nD s2 q2 d2 ex rx h2 => by
    have hd : ∀ p ∈ w1.ps, p ∈ w2.ps := fun p hp => by
      obtain ⟨q, hq, _⟩ := s2.pend
      rw [hq]; exact List.mem_append_right _ hp
    refine h2 ⟨w2.as, w1.ps⟩ H2 (.ref Dl) s2.shut (q2.drop hd) ⟨Dl, xs, rfl, ⟨⟨(q2.pst Dl d2).1, nD⟩, ex⟩, Reps.kp (.drop hd) _ _ rx⟩
theorem sim_lcM (hi : SimI T W wi mi) (hg : SimG T g mg) (gm : GMono g) (gf : Foot g vs) (ht : SimT T W0 tt mt) (he : SimE T W0 te me) : SimE T W (tLc wi g tt te vs) (mLcM mi mg mt me vs) := fun as H σ env st Q e w h =>
  lc_sim (fun _ _ => True) hi hg gm gf ht he e w h fun w1 H1 ds st2 w2 H2 Dl xs s1 hD nD s2 q2 d2 ex rx h2 => by
    have hd : ∀ p ∈ w1.ps, p ∈ w2.ps := fun p hp => by
      obtain ⟨q, hq, _⟩ := s2.pend
      rw [hq]; exact List.mem_append_right _ hp
    by_cases hl : D.lows st2.length ds = true
    · rw [if_pos hl] at h2
      have kp : Kp w2 H2 ⟨w2.as ++ [Dl], w1.ps⟩ H2 := ⟨fun b u hb eb => ⟨⟨fun m => ?_, fun m => hb.2 (hd b m)⟩, eb⟩, fun i a ha => by
        show (w2.as ++ [Dl])[i]? = some a
        rw [List.getElem?_append_left (List.getElem?_eq_some_iff.mp ha).1]
        exact ha⟩
      · refine h2 ⟨w2.as ++ [Dl], w1.ps⟩ H2 (.ref Dl) ⟨?_, ?_, s2.keep, [], by simp, by simp⟩ ⟨by simp [q2.len], ?_, ?_, ?_, ?_⟩ ⟨Dl, rfl, ?_⟩
        · obtain ⟨r, hr⟩ := s2.pre
          exact ⟨r ++ [Dl], by show w2.as ++ [Dl] = _; rw [hr, List.append_assoc]⟩
        · intro b hb nb
          rcases List.mem_append.mp hb with hb | hb
          · exact s2.new b hb nb
          · have eb : b = Dl := by simpa using hb
            rw [eb]; exact hD
        · show (w2.as ++ [Dl]).Nodup
          rw [List.nodup_append]
          refine ⟨q2.nd, by simp, fun a ha b hb ee => ?_⟩
          have eb : b = Dl := by simpa using hb
          subst eb; subst ee
          exact (q2.pst _ d2).1 ha
        · intro i a mo h3 h4
          have h3 : (w2.as ++ [Dl])[i]? = some a := h3
          by_cases hi : i < w2.as.length
          · rw [List.getElem?_append_left hi] at h3
            rw [List.getElem?_append_left (by rw [← q2.len]; exact hi)] at h4
            exact (q2.obs i a mo h3 h4).kp kp fun _ z => z
          · have ll := q2.len
            rw [List.getElem?_append_right (by omega)] at h3
            rw [List.getElem?_append_right (by omega)] at h4
            have z1 : i - w2.as.length = 0 := by
              have := (List.getElem?_eq_some_iff.mp h3).1
              simp at this; omega
            have z2 : i - st2.length = 0 := by omega
            rw [z1] at h3; rw [z2] at h4
            cases h3; cases h4
            exact ⟨xs, ex, Reps.kp kp _ _ rx⟩
        · intro i mo h4
          by_cases hi : i < st2.length
          · rw [List.getElem?_append_left hi] at h4
            exact q2.ord i mo h4
          · rw [List.getElem?_append_right (by omega)] at h4
            have z2 : i - st2.length = 0 := by
              have := (List.getElem?_eq_some_iff.mp h4).1
              simp at this; omega
            rw [z2] at h4
            cases h4
            have z3 : i = st2.length := by omega
            rw [z3]
            exact hl
        · intro p hp
          obtain ⟨n1, n2⟩ := q2.pst p (hd p hp)
          refine ⟨fun hm => ?_, n2⟩
          rcases List.mem_append.mp hm with hm | hm
          · exact n1 hm
          · have eb : p = Dl := by simpa using hm
            rw [eb] at hp
            exact nD hp
        · show (w2.as ++ [Dl])[st2.length]? = some Dl
          rw [← q2.len, List.getElem?_append_right (Nat.le_refl _), Nat.sub_self]
          rfl
      · rcases List.mem_append.mp m with m | m
        · exact hb.1 m
        · have z : b = Dl := by simpa using m
          rw [z] at hb
          exact hb.2 d2
    · rw [if_neg hl] at h2
      exact h2.elim
end
end DL
end
section
set_option Elab.async false
set_option linter.all false
set_option maxRecDepth 100000
set_option maxHeartbeats 2000000
namespace DL
open PySem L2

/-! ### where one stands -/
structure Gd where
  P : Program
  w : World
  K : PySem.W.Frag
  mg : Str → Option Value
  base : Heap
  C : Nat → Addr
abbrev Gd.T (G : Gd) : Tb := ⟨G.K, G.C⟩
structure Ct where
  N : List Str
  sc : Scope
  fn : Str → Bool
  /-- a def's body, no comprehension's block -/
  body : Bool
structure In (G : Gd) (c : Ct) (k : Nat) (W : St → XK) (X : Cx) : Prop where
  prog : X.prog = G.P
  wd : X.w = G.w
  K : X.K = G.K
  mg : X.mg = G.mg
  base : X.base = G.base
  N : X.N = c.N
  sc : X.env.scope = c.sc
  fn : X.fn = c.fn
  calm : X.calm = true
  room : Room k X.A
  tk : L2N.Takes X fun cls d σ H => W σ cls d H
  po : PassesOwn (model X.prog X.w) X.A X.env X.xe
  stk : c.body = true → X.stack = X.env :: X.outer ∧ X.env.frame = some X.env.locals
/-- an expression, by its mirror -/
def DE (G : Gd) (c : Ct) (k : Nat) (W : St → XK) (e : Expr) (m : ME) : Prop := ∃ t, (∀ X, In G c k W X → PE X e t) ∧ SimE G.T W t m
def DA (G : Gd) (c : Ct) (k : Nat) (W : St → XK) (es : List Expr) (m : MA) : Prop := ∃ t, (∀ X, In G c k W X → PA X es t) ∧ SimA G.T W t m
def DT (G : Gd) (c : Ct) (k : Nat) (W : St → XK) (e : Expr) (m : MT) : Prop := ∃ t, (∀ X, In G c k W X → PT X e t) ∧ SimT G.T W t m
def DW (G : Gd) (c : Ct) (k : Nat) (W : St → XK) (e : Expr) (m : MT) : Prop := ∃ t, (∀ X, In G c k W X → PW X e t) ∧ SimT G.T W t m
def DS (G : Gd) (c : Ct) (k : Nat) (W : St → XK) (s : Stmt) (m : MS) : Prop := ∃ t, (∀ X, In G c k W X → PS X s t) ∧ SimS G.T W t m
def DSs (G : Gd) (c : Ct) (k : Nat) (W : St → XK) (s : List Stmt) (m : MS) : Prop := ∃ t, (∀ X, In G c k W X → PSs X s t) ∧ SimS G.T W t m
/-- a target; a comprehension's target wants its slots too -/
def DG (G : Gd) (c : Ct) (k : Nat) (W : St → XK) (e : Expr) (vs : List Nat) (m : MG) : Prop := ∃ g, (∀ X, In G c k W X → PG X e g) ∧ SimG G.T g m ∧ GMono g ∧ Foot g vs
def DGs (G : Gd) (c : Ct) (k : Nat) (W : St → XK) (es : List Expr) (vs : List Nat) (m : MGs) : Prop := ∃ g, (∀ X, In G c k W X → PGs X es g) ∧ SimGs G.T g m ∧ GMonos g ∧ Foots g vs
def DI (G : Gd) (c : Ct) (k : Nat) (W : St → XK) (tg e : Expr) (m : MI) : Prop := ∃ t, (∀ X, In G c k W X → PI X tg e t) ∧ SimI G.T W t m

section
variable {G : Gd} {c : Ct} {k : Nat} {W : St → XK} {e a b : Expr} {m ma mb : ME} {pos : Pos}
theorem In.gl {X : Cx} (h : In G c k W X) {x : Str} (hg : c.sc.names.lookup x = some .globalImplicit) : Gl X x := by
  show X.env.scope.names.lookup x = _
  rw [h.sc]; exact hg
theorem de_var (i : Nat) {x : Str} (hN : c.N[i]? = some x := by rfl) (hv : Vis c.sc x := by first | exact Or.inl rfl | exact Or.inr (Or.inl rfl) | exact Or.inr (Or.inr rfl)) (hd : (x == ("__debug__" : Str)) = false := by decide)
    (hcd : (x == ("__classdict__" : Str)) = false := by decide) : DE G c k W (.Name x pos) (mVar i) :=
  ⟨tVar i, fun X h => pe_var (by rw [h.N]; exact hN) (by rw [h.sc]; exact hv) hd hcd, sim_var⟩
theorem de_int {i j} : DE G c k W (.Constant (.int i) j pos) (mC (.int i)) := ⟨_, fun X h => pe_int, sim_c fun _ _ => rfl⟩
theorem de_bl {b j} : DE G c k W (.Constant (.bool b) j pos) (mC (.bl b)) := ⟨_, fun X h => pe_bl, sim_c fun _ _ => rfl⟩
theorem de_non {j} : DE G c k W (.Constant .none j pos) (mC .non) := ⟨_, fun X h => pe_non, sim_c fun _ _ => rfl⟩
theorem de_str {x j} : DE G c k W (.Constant (.str x) j pos) (mC (.str x)) := ⟨_, fun X h => pe_str, sim_c fun _ _ => rfl⟩
theorem da_nil : DA G c k W [] mNil := ⟨_, fun X h => pa_nil, sim_nil⟩
/-- no star -/
def plainE : Expr → Bool
  | .Starred _ _ => false
  | _ => true
theorem star_of {es : List Expr} {env : Env} (h : plainE e = true) : starEach (e :: es) env = (false, eval e env) :: starEach es env := by
  cases e <;> first | rfl | exact Bool.noConfusion h
theorem da_cons {es : List Expr} {r : MA} (ha : DE G c k W e m) (hr : DA G c k W es r) (hp : plainE e = true := by rfl) : DA G c k W (e :: es) (mCons m r) := by
  obtain ⟨t, h1, h2⟩ := ha
  obtain ⟨u, h3, h4⟩ := hr
  exact ⟨_, fun X h => pa_cons (h1 X h) (h3 X h) (star_of hp), sim_cons h2 h4⟩
theorem de_tup {es : List Expr} {x1} {r : MA} (hr : DA G c k W es r) : DE G c k W (.Tuple es x1 pos) (mTup r) := by
  obtain ⟨u, h3, h4⟩ := hr
  exact ⟨_, fun X h => pe_tup (h3 X h), sim_tup h4⟩
theorem de_lst {es : List Expr} {r : MA} (hr : DA G c k W es r) : DE G c k W (.List es pos) (mLst r) := by
  obtain ⟨u, h3, h4⟩ := hr
  exact ⟨_, fun X h => pe_lst (h3 X h), sim_lst h4⟩
theorem de_lstM {es : List Expr} {r : MA} (hr : DA G c k W es r) : DE G c k W (.List es pos) (mLstM r) := by
  obtain ⟨u, h3, h4⟩ := hr
  exact ⟨_, fun X h => pe_lst (h3 X h), sim_lstM h4⟩
/-! operators by their rule -/
def DOp (G : Gd) (W : St → XK) (f : Value → Value → Sem Value) (k : Nat) (m : D → D → Store → Res D) : Prop := ∃ r : R2, (∀ X : Cx, X.prog = G.P → X.w = G.w → X.K = G.K → X.calm = true → Room k X.A → OpR X f r) ∧ ∀ σ, SimR G.T (W σ) r m
theorem In.op {X : Cx} (h : In G c k W X) {f : Value → Value → Sem Value} {r : R2} (hr : ∀ X : Cx, X.prog = G.P → X.w = G.w → X.K = G.K → X.calm = true → Room k X.A → OpR X f r) : OpR X f r := hr X h.prog h.wd h.K h.calm h.room
theorem de_op {op : Operator} {f : D → D → Store → Res D} (ho : DOp G W (binaryOp op) k f) (ha : DE G c k W a ma) (hb : DE G c k W b mb) : DE G c k W (.BinOp a op b pos) (mOp f ma mb) := by
  obtain ⟨r, h1, h2⟩ := ho
  obtain ⟨t, h3, h4⟩ := ha
  obtain ⟨u, h5, h6⟩ := hb
  exact ⟨_, fun X h => pe_op (h.op h1) (h3 X h) (h5 X h), sim_op h2 h4 h6⟩
theorem de_cmp {op : CmpOp} {f : D → D → Store → Res D} (ho : DOp G W (compareOp op) k f) (ha : DE G c k W a ma) (hb : DE G c k W b mb) (hm : behindInMarks op b = false := by first | rfl | exact nomark _) : DE G c k W (.Compare a [op] [b] pos) (mOp f ma mb) := by
  obtain ⟨r, h1, h2⟩ := ho
  obtain ⟨t, h3, h4⟩ := ha
  obtain ⟨u, h5, h6⟩ := hb
  exact ⟨_, fun X h => pe_cmpR (h.op h1) (h3 X h) (h5 X h) hm, sim_op h2 h4 h6⟩
theorem dt_cmp {op : CmpOp} {f : D → D → Store → Res D} (ho : DOp G W (compareOp op) k f) (ha : DE G c k W a ma) (hb : DE G c k W b mb) (hm : behindInMarks op b = false := by first | rfl | exact nomark _) : DT G c k W (.Compare a [op] [b] pos) (mTest (mOp f ma mb)) := by
  obtain ⟨r, h1, h2⟩ := ho
  obtain ⟨t, h3, h4⟩ := ha
  obtain ⟨u, h5, h6⟩ := hb
  exact ⟨_, fun X h => pt_cmpR (h.op h1) (h3 X h) (h5 X h) hm, sim_testT (sim_op h2 h4 h6)⟩
/-- a value that is a bool, as a test -/
def plainT : Expr → Bool
  | .Name _ _ => true
  | .Call _ _ _ _ => true
  | .Attribute _ _ _ => true
  | .Subscript _ _ _ => true
  | _ => false
theorem plain_true {env : Env} (h : plainT e = true) : ∀ whole, isTrue e env whole = (do let v ← whole; standAt e.pos; holding [v] (truthy v)) := by
  cases e <;> first | (intro whole; rfl) | exact Bool.noConfusion h
theorem dt_val (ha : DE G c k W e m) (hp : plainT e = true := by rfl) : DT G c k W e (mTest m) := by
  obtain ⟨t, h3, h4⟩ := ha
  exact ⟨_, fun X h => pt_val (h3 X h) (plain_true hp), sim_testB h4⟩
theorem dt_of {mt : MT} (h : DW G c k W e mt) : DT G c k W e mt := by
  obtain ⟨t, h3, h4⟩ := h
  exact ⟨t, fun X h => (h3 X h).pt, h4⟩
variable {mt mu : MT} {rest : List Expr}
theorem dt_not (ha : DT G c k W a mt) : DT G c k W (.UnaryOp .Not a pos) (mNot mt) := by
  obtain ⟨t, h3, h4⟩ := ha
  exact ⟨_, fun X h => pt_not (h3 X h), sim_not h4⟩
theorem dw_and1 (ha : DT G c k W a mt) : DW G c k W (.BoolOp .And [a] pos) mt := by
  obtain ⟨t, h3, h4⟩ := ha
  exact ⟨_, fun X h => pw_and1 (h3 X h), h4⟩
theorem dw_or1 (ha : DT G c k W a mt) : DW G c k W (.BoolOp .Or [a] pos) mt := by
  obtain ⟨t, h3, h4⟩ := ha
  exact ⟨_, fun X h => pw_or1 (h3 X h), h4⟩
theorem dw_and (ha : DT G c k W a mt) (hb : DW G c k W (.BoolOp .And (b :: rest) pos) mu) : DW G c k W (.BoolOp .And (a :: b :: rest) pos) (mAnd mt mu) := by
  obtain ⟨t, h3, h4⟩ := ha
  obtain ⟨u, h5, h6⟩ := hb
  exact ⟨_, fun X h => pw_and (h3 X h) (h5 X h), sim_and h4 h6⟩
theorem dw_or (ha : DT G c k W a mt) (hb : DW G c k W (.BoolOp .Or (b :: rest) pos) mu) : DW G c k W (.BoolOp .Or (a :: b :: rest) pos) (mOr mt mu) := by
  obtain ⟨t, h3, h4⟩ := ha
  obtain ⟨u, h5, h6⟩ := hb
  exact ⟨_, fun X h => pw_or (h3 X h) (h5 X h), sim_or h4 h6⟩
theorem de_one {op} (h : DE G c k W a m) : DE G c k W (.BoolOp op [a] pos) m := by
  obtain ⟨t, h3, h4⟩ := h
  exact ⟨_, fun X h => pe_one (h3 X h), h4⟩
theorem de_and (ha : DE G c k W a ma) (hb : DE G c k W (.BoolOp .And (b :: rest) pos) mb) : DE G c k W (.BoolOp .And (a :: b :: rest) pos) (mAndV ma mb) := by
  obtain ⟨t, h3, h4⟩ := ha
  obtain ⟨u, h5, h6⟩ := hb
  exact ⟨_, fun X h => pe_and (h3 X h) (h5 X h), sim_andV h4 h6⟩
theorem de_or (ha : DE G c k W a ma) (hb : DE G c k W (.BoolOp .Or (b :: rest) pos) mb) : DE G c k W (.BoolOp .Or (a :: b :: rest) pos) (mOrV ma mb) := by
  obtain ⟨t, h3, h4⟩ := ha
  obtain ⟨u, h5, h6⟩ := hb
  exact ⟨_, fun X h => pe_or (h3 X h) (h5 X h), sim_orV h4 h6⟩
theorem de_not (ha : DE G c k W a ma) : DE G c k W (.UnaryOp .Not a pos) (mNotV ma) := by
  obtain ⟨t, h3, h4⟩ := ha
  exact ⟨_, fun X h => pe_not (h3 X h), sim_notV h4⟩
theorem de_if {ce : Expr} (hc : DT G c k W ce mt) (ha : DE G c k W a ma) (hb : DE G c k W b mb) : DE G c k W (.IfExp ce a b pos) (mIf mt ma mb) := by
  obtain ⟨t, h3, h4⟩ := ha
  obtain ⟨u, h5, h6⟩ := hb
  obtain ⟨v, h7, h8⟩ := hc
  exact ⟨_, fun X h => pe_ifExp (h7 X h) (h3 X h) (h5 X h), sim_if h8 h4 h6⟩

/-! ### statements -/
variable {s : Stmt} {ss : List Stmt} {ms mr : MS}
theorem dss_nil : DSs G c k W [] msNext := ⟨_, fun X h => pss_nil, sims_next⟩
theorem dss_one (h : DS G c k W s ms) : DSs G c k W [s] ms := by
  obtain ⟨t, h3, h4⟩ := h
  exact ⟨_, fun X h => pss_one (h3 X h), h4⟩
theorem dss_cons (h : DS G c k W s ms) (hr : DSs G c k W ss mr) : DSs G c k W (s :: ss) (msSeq ms mr) := by
  obtain ⟨t, h3, h4⟩ := h
  obtain ⟨u, h5, h6⟩ := hr
  exact ⟨_, fun X h => pss_cons (h3 X h) (h5 X h), sims_seq h4 h6⟩
theorem ds_pass : DS G c k W (.Pass pos) msNext := ⟨_, fun X h => ps_pass, sims_next⟩
theorem ds_break : DS G c k W (.Break pos) msBrk := ⟨_, fun X h => ps_break, sims_brk⟩
theorem ds_continue : DS G c k W (.Continue pos) msCt := ⟨_, fun X h => ps_continue, sims_ct⟩
theorem ds_ret (h : DE G c k W e m) : DS G c k W (.Return (some e) pos) (msRet m) := by
  obtain ⟨t, h3, h4⟩ := h
  exact ⟨_, fun X h => ps_ret (h3 X h), sims_ret h4⟩
theorem ds_retN : DS G c k W (.Return none pos) msRetN := ⟨_, fun X h => ps_retN, sims_retN⟩
theorem ds_if {ce : Expr} {sa sb : List Stmt} (hc : DT G c k W ce mt) (ha : DSs G c k W sa ms) (hb : DSs G c k W sb mr) : DS G c k W (.If ce sa sb pos) (msIf mt ms mr) := by
  obtain ⟨t, h3, h4⟩ := ha
  obtain ⟨u, h5, h6⟩ := hb
  obtain ⟨v, h7, h8⟩ := hc
  exact ⟨_, fun X h => ps_if (h7 X h) (h3 X h) (h5 X h), sims_if h8 h4 h6⟩
/-- calls, names: nothing is swapped -/
def plainX : Expr → Bool
  | .Call _ _ _ _ => true
  | _ => false
theorem ds_expr (h : DE G c k W e m) (hs : ∀ env, swapsWith e none pos.line env = pure false := by intro _; rfl) : DS G c k W (.Expr e pos) (msDrop m) := by
  obtain ⟨t, h3, h4⟩ := h
  exact ⟨_, fun X h => ps_expr (h3 X h) (hs _), sims_drop h4⟩
theorem loc_of {X : Cx} (h : In G c k W X) {x : Str} (hx : c.sc.names.lookup x = some .local ∨ (c.sc.names.lookup x = some .cell ∧ c.fn x = true)) : Loc X.env.scope x ∧ (X.fn x = true ∨ X.env.scope.names.lookup x = some .local) := by
  rw [h.sc, h.fn]
  rcases hx with q | ⟨q, r⟩
  · exact ⟨.inl q, .inr q⟩
  · exact ⟨.inr q, .inl r⟩
theorem ds_set {i : Nat} {x : Str} {pos' : Pos} (hi : c.N[i]? = some x) (hx : c.sc.names.lookup x = some .local ∨ (c.sc.names.lookup x = some .cell ∧ c.fn x = true)) (nd : c.N.Nodup) (he : DE G c k W e m)
    (hs : ∀ env, swapsWith e (some (.Name x pos')) pos.line env = pure false := by intro _; rfl) : DS G c k W (.Assign [.Name x pos'] e pos) (msSet i m) := by
  obtain ⟨t, h3, h4⟩ := he
  exact ⟨_, fun X h => ps_set (by rw [h.N]; exact nd) (by rw [h.N]; exact hi) (loc_of h hx).1 (h3 X h) (hs _) (loc_of h hx).2, sims_set h4⟩
theorem dg_name {i : Nat} {x : Str} {vs : List Nat} (hi : c.N[i]? = some x) (hx : c.sc.names.lookup x = some .local ∨ (c.sc.names.lookup x = some .cell ∧ c.fn x = true)) (nd : c.N.Nodup) (hv : i ∈ vs) : DG G c k W (.Name x pos) vs (gvName i) :=
  ⟨_, fun X h => pg_name (by rw [h.N]; exact nd) (by rw [h.N]; exact hi) (loc_of h hx).1 (loc_of h hx).2, simg_name, gm_name, foot_name hv⟩
theorem dgs_nil {vs : List Nat} : DGs G c k W [] vs gvNil := ⟨_, fun X h => pgs_nil, simg_nil, gm_nil, foot_nil⟩
def plainG : Expr → Bool
  | .Name _ _ => true
  | .Tuple _ _ _ => true
  | .Subscript _ _ _ => true
  | .Attribute _ _ _ => true
  | _ => false
theorem assignEach_of {es : List Expr} {env : Env} (h : plainG e = true) : (assignEach (e :: es) env).map (·.2) = assign e env :: (assignEach es env).map (·.2) := by
  cases e <;> first | rfl | exact Bool.noConfusion h
theorem dgs_cons {es : List Expr} {vs : List Nat} {mg : MG} {mgs : MGs} (h1 : DG G c k W e vs mg) (h2 : DGs G c k W es vs mgs) (hp : plainG e = true := by rfl) : DGs G c k W (e :: es) vs (gvCons mg mgs) := by
  obtain ⟨t, a1, a2, a3, a4⟩ := h1
  obtain ⟨u, b1, b2, b3, b4⟩ := h2
  exact ⟨_, fun X h => pgs_cons (a1 X h) (b1 X h) (assignEach_of hp), simg_cons a2 b2, gm_cons a3 b3, foot_cons a3 a4 b4⟩
theorem dg_tup {es : List Expr} {j n : Nat} {vs : List Nat} {mgs : MGs} (h2 : DGs G c k W es vs mgs) (hn : ∀ env, (assignEach es env).length = n := by intro _; rfl) (hst : ∀ env, (assignEach es env).findIdx? (·.1) = none := by intro _; rfl) : DG G c k W (.Tuple es j pos) vs (gvTup n mgs) := by
  obtain ⟨u, b1, b2, b3, b4⟩ := h2
  refine ⟨gTup G.K n u, fun X h => ?_, simg_tup b2, gm_tup b3, foot_tup b4⟩
  have q := pg_tup (pos := pos) (k := j) h.calm (b1 X h) (hn _) (hst _)
  rw [h.K] at q
  exact q
theorem ds_asg {tg : Expr} {vs : List Nat} {mg : MG} (he : DE G c k W e m) (hg : DG G c k W tg vs mg) (hs : ∀ env, swapsWithSole [tg] e pos.line env = pure false := by intro _; rfl) (hw : ∀ env, swappedStores [tg] e env = pure none := by intro _; rfl)
    (hp : plainG tg = true := by rfl) : DS G c k W (.Assign [tg] e pos) (msAsg m mg) := by
  obtain ⟨t, h3, h4⟩ := he
  obtain ⟨u, b1, b2, b3, b4⟩ := hg
  exact ⟨_, fun X h => ps_asg (h3 X h) (b1 X h) (hs _) (hw _) (assignEach_of hp), sims_asg h4 b2⟩
theorem ds_for {tg iter : Expr} {vs : List Nat} {mg : MG} {mi : MI} {body : List Stmt} (hi : DI G c k W tg iter mi) (hg : DG G c k W tg vs mg) (hb : DSs G c k W body ms)
    (hs : ∀ env x, foldedSetIterable iter env x = pure x := by intro _ _; rfl) : DS G c k W (.For tg iter body [] pos) (msFor mi mg ms) := by
  obtain ⟨t, h3, h4⟩ := hi
  obtain ⟨u, b1, b2, b3, b4⟩ := hg
  obtain ⟨v, h5, h6⟩ := hb
  exact ⟨_, fun X h => ps_for h.po h.calm (h3 X h) (b1 X h) (h5 X h) (hs _), sims_for h4 b2 h6⟩
theorem ds_while {ce : Expr} {body : List Stmt} (hc : DT G c k W ce mt) (hb : DSs G c k W body ms) : DS G c k W (.While ce body [] pos) (msWhile mt ms) := by
  obtain ⟨t, h3, h4⟩ := hc
  obtain ⟨v, h5, h6⟩ := hb
  exact ⟨_, fun X h => ps_while h.po (h3 X h) (h5 X h), sims_while h4 h6⟩

/-! ### comprehensions -/
def blkSc (scope sc : Scope) : Scope := { scope with names := scope.names.map fun (n, k) => if (k == .free && sc.kind == .function && sc.names.lookup n == some .cell) then (n, .cell) else (n, k) }
def Ct.blk (c : Ct) (scope : Scope) : Ct := ⟨c.N, blkSc scope c.sc, fun x => scope.names.lookup x == some .cell, false⟩
theorem In.blk {X : Cx} (h : In G c k W X) {s : Shared} {H : Hp} {scope : Scope} {C : Addr} {cl : List (Str × Addr)} {fp : List Addr} : In G (c.blk scope) k W0 (X.blk s H scope (compEnvC scope cl C X.env) fp) := by
  refine ⟨h.prog, h.wd, h.K, h.mg, h.base, h.N, ?_, rfl, h.calm, h.room, fun _ _ ⟨_, _, _, _, _, _, _, _, _, _, _, _, _, _, _, _, z⟩ => z.elim, PassesOwn.never, fun z => Bool.noConfusion z⟩
  show relabel scope X.env = blkSc scope c.sc
  rw [← h.sc]
  rfl
def DTs (G : Gd) (c : Ct) (k : Nat) (W : St → XK) (es : List Expr) (m : MT) : Prop := ∃ t, (∀ X, In G c k W X → PTs X es t) ∧ SimT G.T W t m
theorem dts_nil : DTs G c k W [] mYes := ⟨_, fun X h => pts_nil, sim_yes⟩
theorem dts_one (h : DT G c k W e mt) : DTs G c k W [e] mt := by
  obtain ⟨t, h3, h4⟩ := h
  exact ⟨_, fun X h => pts_one (h3 X h), h4⟩
theorem de_lc {elt tg iter : Expr} {ifs : List Expr} {scope : Scope} {own : List (Str × Nat)} {vs : List Nat} {mg : MG} {mi : MI} (nd : c.N.Nodup) (hv : own.map (·.2) = vs) (hi : DI G c k W tg iter mi) (ok : blkC c.N c.sc scope own = true)
    (hg : DG G (c.blk scope) k W0 tg vs mg) (ht : DTs G (c.blk scope) k W0 ifs mt) (he : DE G (c.blk scope) k W0 elt m) (hs : ∀ env x, foldedSetIterable iter env x = pure x := by intro _ _; rfl) :
    DE G c k W (.ListComp elt [⟨tg, iter, ifs, 0⟩] scope pos) (mLc mi mg mt m vs) := by
  obtain ⟨t, h3, h4⟩ := hi
  obtain ⟨u, b1, b2, b3, b4⟩ := hg
  obtain ⟨v, h5, h6⟩ := ht
  obtain ⟨x, h7, h8⟩ := he
  subst hv
  refine ⟨tLc t u v x (own.map (·.2)), fun X h => pe_lc h.calm (by rw [h.N]; exact nd) (h3 X h) (blkOk_by (by rw [h.N, h.sc]; exact ok)) (fun _ _ _ _ _ => b1 _ h.blk) (fun _ _ _ _ _ => h5 _ h.blk) (fun _ _ _ _ _ => h7 _ h.blk) (hs _), sim_lc h4 b2 b3 b4 h6 h8⟩
theorem de_lcM {elt tg iter : Expr} {ifs : List Expr} {scope : Scope} {own : List (Str × Nat)} {vs : List Nat} {mg : MG} {mi : MI} (nd : c.N.Nodup) (hv : own.map (·.2) = vs) (hi : DI G c k W tg iter mi) (ok : blkC c.N c.sc scope own = true)
    (hg : DG G (c.blk scope) k W0 tg vs mg) (ht : DTs G (c.blk scope) k W0 ifs mt) (he : DE G (c.blk scope) k W0 elt m) (hs : ∀ env x, foldedSetIterable iter env x = pure x := by intro _ _; rfl) :
    DE G c k W (.ListComp elt [⟨tg, iter, ifs, 0⟩] scope pos) (mLcM mi mg mt m vs) := by
  obtain ⟨t, h3, h4⟩ := hi
  obtain ⟨u, b1, b2, b3, b4⟩ := hg
  obtain ⟨v, h5, h6⟩ := ht
  obtain ⟨x, h7, h8⟩ := he
  subst hv
  refine ⟨tLc t u v x (own.map (·.2)), fun X h => pe_lc h.calm (by rw [h.N]; exact nd) (h3 X h) (blkOk_by (by rw [h.N, h.sc]; exact ok)) (fun _ _ _ _ _ => b1 _ h.blk) (fun _ _ _ _ _ => h5 _ h.blk) (fun _ _ _ _ _ => h7 _ h.blk) (hs _), sim_lcM h4 b2 b3 b4 h6 h8⟩
/-- name = [..] -/
theorem ds_setLc {i : Nat} {y : Str} {py spos : Pos} {elt tg iter : Expr} {ifs : List Expr} {scope : Scope} {own : List (Str × Nat)} {vs : List Nat} {mg : MG} {mi : MI} {ml : ME} (nd : c.N.Nodup) (hy : c.N[i]? = some y) (hyl : c.sc.names.lookup y = some .local)
    (hk : c.sc.kind = .function) (hl : (py.line == pos.line) = true) (hn : (scope.names.any fun (n, k) => n == y && (k == .local || k == .cell)) = false) (hv : own.map (·.2) = vs) (hi : DI G c k W tg iter mi) (ok : blkC c.N c.sc scope own = true)
    (hg : DG G (c.blk scope) k W0 tg vs mg) (ht : DTs G (c.blk scope) k W0 ifs mt) (he : DE G (c.blk scope) k W0 elt m) (hml : ml = mLc mi mg mt m vs ∨ ml = mLcM mi mg mt m vs) (hs : ∀ env x, foldedSetIterable iter env x = pure x := by intro _ _; rfl) :
    DS G c k W (.Assign [.Name y py] (.ListComp elt [⟨tg, iter, ifs, 0⟩] scope pos) spos) (msSet i ml) := by
  obtain ⟨t, h3, h4⟩ := hi
  obtain ⟨u, b1, b2, b3, b4⟩ := hg
  obtain ⟨v, h5, h6⟩ := ht
  obtain ⟨x, h7, h8⟩ := he
  subst hv
  refine ⟨tAsg (tLc t u v x (own.map (·.2))) (gName i), fun X h => ps_setLc h.calm (by rw [h.N]; exact nd) (by rw [h.N]; exact hy) (by rw [h.sc]; exact hyl) (sw_true (by rw [h.sc]; exact hk) (by rw [h.sc]; exact hyl) hl hn) (h3 X h) (blkOk_by (by rw [h.N, h.sc]; exact ok)) (fun _ _ _ _ _ => b1 _ h.blk) (fun _ _ _ _ _ => h5 _ h.blk) (fun _ _ _ _ _ => h7 _ h.blk) (hs _), ?_⟩
  rcases hml with rfl | rfl
  · exact sims_set (sim_lc h4 b2 b3 b4 h6 h8)
  · exact sims_set (sim_lcM h4 b2 b3 b4 h6 h8)
end
end DL
end
section
set_option Elab.async false
set_option linter.all false
set_option maxRecDepth 100000
set_option maxHeartbeats 2000000
namespace DL
open PySem L2

/-! ### leaving a def: what it made and may still change is a tree from then on -/
section
variable {T : Tb} {w w' : Wd} {H : Hp} {f : Nat → D} {k : Nat}
theorem PtpAt.low {a : Addr} {vs : List V} (hk : ∀ b, w'.ok b → w.ok b) (h : PtpAt T w' H a vs) : PtpAt T w H a vs := by
  rcases h with ⟨n, h⟩ | h
  · exact .inl ⟨hk _ n, h⟩
  · exact .inr h
theorem TupAt.low {a : Addr} {vs : List V} (hk : ∀ b, w'.ok b → w.ok b) (h : TupAt T w' H a vs) : TupAt T w H a vs := by
  rcases h with ⟨n, h⟩ | h
  · exact .inl ⟨hk _ n, h⟩
  · exact .inr h
theorem LstAt.low {a : Addr} {vs : List V} (hk : ∀ b, w'.ok b → w.ok b) (h : LstAt T w' H a vs) : LstAt T w H a vs := ⟨hk _ h.1, h.2⟩
theorem ScrAt.low {a : Addr} {vs : List V} (hk : ∀ b, w'.ok b → w.ok b) (h : ScrAt T w' H a vs) : ScrAt T w H a vs := by
  rcases h with ⟨n, h⟩ | h
  · exact .inl ⟨hk _ n, h⟩
  · exact .inr h
mutual
theorem Rep.sub (hk : ∀ b, w'.ok b → w.ok b) (hf : ∀ (i : Nat) a, i < k → w'.as[i]? = some a → Rep T w H (f i) (.ref a)) : ∀ (d : D) (v : V), d.low k = true → Rep T w' H d v → Rep T w H (d.sub f) v
  | .non, v, _, h => h
  | .bl b, v, _, h => h
  | .int i, v, _, h => h
  | .str s, v, _, h => h
  | .ty n, v, _, h => h
  | .cls c, v, _, h => h
  | .tup xs, v, l, h => by
    obtain ⟨a, vs, e, h1, h2⟩ := h
    exact ⟨a, vs, e, h1.low hk, Reps.sub hk hf xs vs l h2⟩
  | .ptp xs, v, l, h => by
    obtain ⟨a, vs, e, h1, h2⟩ := h
    exact ⟨a, vs, e, h1.low hk, Reps.sub hk hf xs vs l h2⟩
  | .lst xs, v, l, h => by
    obtain ⟨a, vs, e, h1, h2⟩ := h
    exact ⟨a, vs, e, h1.low hk, Reps.sub hk hf xs vs l h2⟩
  | .scr xs, v, l, h => by
    obtain ⟨a, vs, e, h1, h2⟩ := h
    exact ⟨a, vs, e, h1.low hk, Reps.sub hk hf xs vs l h2⟩
  | .dic kvs, v, l, h => by
    obtain ⟨a, ws, e, n, h1, h2⟩ := h
    exact ⟨a, ws, e, hk _ n, h1, RepK.sub hk hf kvs ws l h2⟩
  | .obj c fs, v, l, h => by
    obtain ⟨a, dx, ws, e, n, h1, h2⟩ := h
    exact ⟨a, dx, ws, e, hk _ n, h1, RepF.sub hk hf fs ws l h2⟩
  | .box i, v, l, h => by
    obtain ⟨a, e, h⟩ := h
    rw [e]
    exact hf i a (of_decide_eq_true l) h
theorem Reps.sub (hk : ∀ b, w'.ok b → w.ok b) (hf : ∀ (i : Nat) a, i < k → w'.as[i]? = some a → Rep T w H (f i) (.ref a)) : ∀ (ds : List D) (vs : List V), D.lows k ds = true → Reps T w' H ds vs → Reps T w H (D.subs f ds) vs
  | [], vs, _, h => h
  | d :: ds, vs, l, h => by
    obtain ⟨v, r, e, h1, h2⟩ := h
    have l' : (D.low k d && D.lows k ds) = true := l
    rw [Bool.and_eq_true] at l'
    exact ⟨v, r, e, Rep.sub hk hf d v l'.1 h1, Reps.sub hk hf ds r l'.2 h2⟩
theorem RepK.sub (hk : ∀ b, w'.ok b → w.ok b) (hf : ∀ (i : Nat) a, i < k → w'.as[i]? = some a → Rep T w H (f i) (.ref a)) : ∀ (ds : List (Key × D)) (vs : List (Key × V)), D.lowK k ds = true → RepK T w' H ds vs → RepK T w H (D.subK f ds) vs
  | [], vs, _, h => h
  | (q, d) :: ds, vs, l, h => by
    obtain ⟨v, r, e, h1, h2⟩ := h
    have l' : (D.low k d && D.lowK k ds) = true := l
    rw [Bool.and_eq_true] at l'
    exact ⟨v, r, e, Rep.sub hk hf d v l'.1 h1, RepK.sub hk hf ds r l'.2 h2⟩
theorem RepF.sub (hk : ∀ b, w'.ok b → w.ok b) (hf : ∀ (i : Nat) a, i < k → w'.as[i]? = some a → Rep T w H (f i) (.ref a)) : ∀ (ds : List (Str × D)) (vs : List (Str × V)), D.lowF k ds = true → RepF T w' H ds vs → RepF T w H (D.subF f ds) vs
  | [], vs, _, h => h
  | (q, d) :: ds, vs, l, h => by
    obtain ⟨v, r, e, h1, h2⟩ := h
    have l' : (D.low k d && D.lowF k ds) = true := l
    rw [Bool.and_eq_true] at l'
    exact ⟨v, r, e, Rep.sub hk hf d v l'.1 h1, RepF.sub hk hf ds r l'.2 h2⟩
end
mutual
theorem Rep.cut (hk : ∀ b, w'.ok b → w.ok b) (hf : ∀ (i : Nat) a, i < k → w'.as[i]? = some a → w.as[i]? = some a) : ∀ (d : D) (v : V), d.low k = true → Rep T w' H d v → Rep T w H d v
  | .non, v, _, h => h
  | .bl b, v, _, h => h
  | .int i, v, _, h => h
  | .str s, v, _, h => h
  | .ty n, v, _, h => h
  | .cls c, v, _, h => h
  | .tup xs, v, l, h => by
    obtain ⟨a, vs, e, h1, h2⟩ := h
    exact ⟨a, vs, e, h1.low hk, Reps.cut hk hf xs vs l h2⟩
  | .ptp xs, v, l, h => by
    obtain ⟨a, vs, e, h1, h2⟩ := h
    exact ⟨a, vs, e, h1.low hk, Reps.cut hk hf xs vs l h2⟩
  | .lst xs, v, l, h => by
    obtain ⟨a, vs, e, h1, h2⟩ := h
    exact ⟨a, vs, e, h1.low hk, Reps.cut hk hf xs vs l h2⟩
  | .scr xs, v, l, h => by
    obtain ⟨a, vs, e, h1, h2⟩ := h
    exact ⟨a, vs, e, h1.low hk, Reps.cut hk hf xs vs l h2⟩
  | .dic kvs, v, l, h => by
    obtain ⟨a, ws, e, n, h1, h2⟩ := h
    exact ⟨a, ws, e, hk _ n, h1, RepK.cut hk hf kvs ws l h2⟩
  | .obj c fs, v, l, h => by
    obtain ⟨a, dx, ws, e, n, h1, h2⟩ := h
    exact ⟨a, dx, ws, e, hk _ n, h1, RepF.cut hk hf fs ws l h2⟩
  | .box i, v, l, h => by
    obtain ⟨a, e, h⟩ := h
    exact ⟨a, e, hf i a (of_decide_eq_true l) h⟩
theorem Reps.cut (hk : ∀ b, w'.ok b → w.ok b) (hf : ∀ (i : Nat) a, i < k → w'.as[i]? = some a → w.as[i]? = some a) : ∀ (ds : List D) (vs : List V), D.lows k ds = true → Reps T w' H ds vs → Reps T w H ds vs
  | [], vs, _, h => h
  | d :: ds, vs, l, h => by
    obtain ⟨v, r, e, h1, h2⟩ := h
    have l' : (D.low k d && D.lows k ds) = true := l
    rw [Bool.and_eq_true] at l'
    exact ⟨v, r, e, Rep.cut hk hf d v l'.1 h1, Reps.cut hk hf ds r l'.2 h2⟩
theorem RepK.cut (hk : ∀ b, w'.ok b → w.ok b) (hf : ∀ (i : Nat) a, i < k → w'.as[i]? = some a → w.as[i]? = some a) : ∀ (ds : List (Key × D)) (vs : List (Key × V)), D.lowK k ds = true → RepK T w' H ds vs → RepK T w H ds vs
  | [], vs, _, h => h
  | (q, d) :: ds, vs, l, h => by
    obtain ⟨v, r, e, h1, h2⟩ := h
    have l' : (D.low k d && D.lowK k ds) = true := l
    rw [Bool.and_eq_true] at l'
    exact ⟨v, r, e, Rep.cut hk hf d v l'.1 h1, RepK.cut hk hf ds r l'.2 h2⟩
theorem RepF.cut (hk : ∀ b, w'.ok b → w.ok b) (hf : ∀ (i : Nat) a, i < k → w'.as[i]? = some a → w.as[i]? = some a) : ∀ (ds : List (Str × D)) (vs : List (Str × V)), D.lowF k ds = true → RepF T w' H ds vs → RepF T w H ds vs
  | [], vs, _, h => h
  | (q, d) :: ds, vs, l, h => by
    obtain ⟨v, r, e, h1, h2⟩ := h
    have l' : (D.low k d && D.lowF k ds) = true := l
    rw [Bool.and_eq_true] at l'
    exact ⟨v, r, e, Rep.cut hk hf d v l'.1 h1, RepF.cut hk hf ds r l'.2 h2⟩
end
mutual
theorem Rep.lowOf : ∀ (d : D) (v : V), Rep T w H d v → d.low w.as.length = true
  | .non, v, h => rfl
  | .bl b, v, h => rfl
  | .int i, v, h => rfl
  | .str s, v, h => rfl
  | .ty n, v, h => rfl
  | .cls c, v, h => rfl
  | .tup xs, v, h => by
    obtain ⟨a, vs, e, h1, h2⟩ := h
    exact Reps.lowOf xs vs h2
  | .ptp xs, v, h => by
    obtain ⟨a, vs, e, h1, h2⟩ := h
    exact Reps.lowOf xs vs h2
  | .lst xs, v, h => by
    obtain ⟨a, vs, e, h1, h2⟩ := h
    exact Reps.lowOf xs vs h2
  | .scr xs, v, h => by
    obtain ⟨a, vs, e, h1, h2⟩ := h
    exact Reps.lowOf xs vs h2
  | .dic kvs, v, h => by
    obtain ⟨a, ws, e, n, h1, h2⟩ := h
    exact RepK.lowOf kvs ws h2
  | .obj c fs, v, h => by
    obtain ⟨a, dx, ws, e, n, h1, h2⟩ := h
    exact RepF.lowOf fs ws h2
  | .box i, v, h => by
    obtain ⟨a, e, h⟩ := h
    exact decide_eq_true (List.getElem?_eq_some_iff.mp h).1
theorem Reps.lowOf : ∀ (ds : List D) (vs : List V), Reps T w H ds vs → D.lows w.as.length ds = true
  | [], vs, h => rfl
  | d :: ds, vs, h => by
    obtain ⟨v, r, e, h1, h2⟩ := h
    show (D.low w.as.length d && D.lows w.as.length ds) = true
    rw [Bool.and_eq_true]
    exact ⟨Rep.lowOf d v h1, Reps.lowOf ds r h2⟩
theorem RepK.lowOf : ∀ (ds : List (Key × D)) (vs : List (Key × V)), RepK T w H ds vs → D.lowK w.as.length ds = true
  | [], vs, h => rfl
  | (q, d) :: ds, vs, h => by
    obtain ⟨v, r, e, h1, h2⟩ := h
    show (D.low w.as.length d && D.lowK w.as.length ds) = true
    rw [Bool.and_eq_true]
    exact ⟨Rep.lowOf d v h1, RepK.lowOf ds r h2⟩
theorem RepF.lowOf : ∀ (ds : List (Str × D)) (vs : List (Str × V)), RepF T w H ds vs → D.lowF w.as.length ds = true
  | [], vs, h => rfl
  | (q, d) :: ds, vs, h => by
    obtain ⟨v, r, e, h1, h2⟩ := h
    show (D.low w.as.length d && D.lowF w.as.length ds) = true
    rw [Bool.and_eq_true]
    exact ⟨Rep.lowOf d v h1, RepF.lowOf ds r h2⟩
end
end
section
variable {T : Tb} {w w0 : Wd} {H H0 : Hp} {st : Store} {n : Nat}
/-- the trees of all objects from n on -/
theorem fz_inv (q : WH T w H st) (hw : ∀ b, w.ok b → w0.ok b) (hn : n ≤ st.length) (hlo : ∀ (i : Nat) a, i < n → w.as[i]? = some a → w0.as[i]? = some a) (hhi : ∀ (i : Nat) a, n ≤ i → w.as[i]? = some a → w0.ok a) :
    ∀ (r : Store) (acc : List D), st = st.take acc.length ++ r → acc.length ≤ st.length → (∀ (i : Nat) a, i < acc.length → w.as[i]? = some a → Rep T w0 H (acc.getD i .non) (.ref a)) →
      ∀ (i : Nat) a, w.as[i]? = some a → Rep T w0 H ((fzAll n r acc).getD i .non) (.ref a)
  | [], acc, e, hl, h => fun i a ha => by
    refine h i a ?_ ha
    have hi := (List.getElem?_eq_some_iff.mp ha).1
    rw [q.len, e, List.append_nil, List.length_take] at hi
    omega
  | mo :: r, acc, e, hl, h => by
    have hmo : st[acc.length]? = some mo := by
      rw [e, List.getElem?_append_right (by rw [List.length_take]; exact Nat.min_le_left _ _)]
      rw [List.length_take, Nat.min_eq_left hl, Nat.sub_self]
      rfl
    have hlt := (List.getElem?_eq_some_iff.mp hmo).1
    obtain ⟨a0, ha0, hm⟩ := q.ad hmo
    have hg : ∀ x : D, (∀ a, w.as[acc.length]? = some a → Rep T w0 H x (.ref a)) → ∀ (i : Nat) a, i < (acc ++ [x]).length → w.as[i]? = some a → Rep T w0 H ((acc ++ [x]).getD i .non) (.ref a) := by
      intro x hx i a hi ha
      by_cases c : i < acc.length
      · have := h i a c ha
        rw [List.getD_eq_getElem?_getD] at this ⊢
        rw [List.getElem?_append_left c]
        exact this
      · have e2 : i = acc.length := by simp at hi; omega
        subst e2
        rw [List.getD_eq_getElem?_getD, List.getElem?_append_right (Nat.le_refl _), Nat.sub_self]
        exact hx a ha
    have ih := fz_inv q hw hn hlo hhi r (acc ++ [if acc.length < n then .box acc.length else mo.sub fun j => acc.getD j .non]) (by
      rw [List.length_append]
      show st = st.take (acc.length + 1) ++ r
      rw [List.take_add_one, hmo]
      rw [List.append_assoc]
      exact e) (by simp; omega) (hg _ fun a ha => by
      rw [ha0] at ha; cases ha
      by_cases c : acc.length < n
      · rw [if_pos c]
        exact ⟨a0, rfl, hlo _ _ c ha0⟩
      · rw [if_neg c]
        have ok0 := hhi _ _ (by omega) ha0
        have lo := q.ord _ _ hmo
        have hf : ∀ (i : Nat) a, i < acc.length → w.as[i]? = some a → Rep T w0 H (acc.getD i .non) (.ref a) := h
        cases mo with
        | lst ds =>
          obtain ⟨vs, e1, r1⟩ := hm
          exact ⟨a0, vs, rfl, ⟨ok0, e1⟩, Reps.sub hw hf ds vs lo r1⟩
        | dic kvs =>
          obtain ⟨vs, e1, r1⟩ := hm
          exact ⟨a0, vs, rfl, ok0, .inl e1, RepK.sub hw hf kvs vs lo r1⟩
        | ins c fs =>
          obtain ⟨dx, vs, e1, r1⟩ := hm
          exact ⟨a0, dx, vs, rfl, ok0, e1, RepF.sub hw hf fs vs lo r1⟩)
    exact ih
/-- behind a def: the caller's objects, and what is handed back -/
theorem leave_ok {st0 : Store} (q0 : WH T w0 H0 st0) (s : Step w0 H0 w H) (q : WH T w H st) :
    Step w0 H0 w0 H ∧ WH T w0 H (st.take st0.length) ∧ (∀ d v, Rep T w H d v → Rep T w0 H (fz st0.length st d) v) ∧ ∀ fs ws, RepF T w H fs ws → RepF T w0 H (D.subF (fun j => (fzAll st0.length st []).getD j .non) fs) ws := by
  obtain ⟨r, hr⟩ := s.pre
  obtain ⟨pq, hpq, npq⟩ := s.pend
  have l0 : w0.as.length = st0.length := q0.len
  have l1 : st0.length ≤ st.length := by
    have := q.len
    rw [hr, List.length_append] at this
    omega
  have hw : ∀ b, w.ok b → w0.ok b := fun b hb => ⟨fun m => hb.1 (by rw [hr]; exact List.mem_append_left _ m), fun m => hb.2 (by rw [hpq]; exact List.mem_append_right _ m)⟩
  have hlo : ∀ (i : Nat) a, i < st0.length → w.as[i]? = some a → w0.as[i]? = some a := fun i a hi ha => by
    rw [hr, List.getElem?_append_left (by omega)] at ha
    exact ha
  have hhi : ∀ (i : Nat) a, st0.length ≤ i → w.as[i]? = some a → w0.ok a := fun i a hi ha => by
    refine ⟨fun m => ?_, fun m => ?_⟩
    · obtain ⟨j, hj⟩ := List.mem_iff_getElem?.mp m
      have hjl := (List.getElem?_eq_some_iff.mp hj).1
      have hj2 : w.as[j]? = some a := by rw [hr, List.getElem?_append_left hjl]; exact hj
      obtain ⟨x1, y1⟩ := List.getElem?_eq_some_iff.mp ha
      obtain ⟨x2, y2⟩ := List.getElem?_eq_some_iff.mp hj2
      have := (List.getElem_inj q.nd).mp (y1.trans y2.symm)
      omega
    · exact (q.pst a (by rw [hpq]; exact List.mem_append_right _ m)).1 (List.mem_iff_getElem?.mpr ⟨i, ha⟩)
  have inv := fz_inv q hw l1 hlo hhi st [] (by simp) (Nat.zero_le _) (fun i a hi => absurd hi (Nat.not_lt_zero _))
  have step : Step w0 H0 w0 H := ⟨⟨[], by simp⟩, fun _ h n => absurd h n, s.keep, [], by simp, by simp⟩
  refine ⟨step, ⟨?_, q0.nd, fun i a mo h1 h2 => ?_, fun i mo h2 => ?_, fun p hp => ?_⟩, fun d v hd => ?_, fun fs ws hd => ?_⟩
  · rw [List.length_take, Nat.min_eq_left l1]; exact l0
  · have hi : i < st0.length := by rw [← l0]; exact (List.getElem?_eq_some_iff.mp h1).1
    rw [List.getElem?_take_of_lt hi] at h2
    have h3 : w.as[i]? = some a := by rw [hr, List.getElem?_append_left (by omega)]; exact h1
    have lo := q.ord i mo h2
    have hf : ∀ (j : Nat) b, j < i → w.as[j]? = some b → w0.as[j]? = some b := fun j b hj hb => hlo j b (by omega) hb
    have m := q.obs i a mo h3 h2
    cases mo with
    | lst ds =>
      obtain ⟨vs, e1, r1⟩ := m
      exact ⟨vs, e1, Reps.cut hw hf ds vs lo r1⟩
    | dic kvs =>
      obtain ⟨vs, e1, r1⟩ := m
      exact ⟨vs, e1, RepK.cut hw hf kvs vs lo r1⟩
    | ins c fs =>
      obtain ⟨dx, vs, e1, r1⟩ := m
      exact ⟨dx, vs, e1, RepF.cut hw hf fs vs lo r1⟩
  · by_cases hi : i < st0.length
    · rw [List.getElem?_take_of_lt hi] at h2
      exact q.ord i mo h2
    · rw [List.getElem?_eq_none (by rw [List.length_take]; omega)] at h2; cases h2
  · obtain ⟨n1, o, n2⟩ := q0.pst p hp
    exact ⟨n1, o, s.keep p o n1 n2⟩
  · exact Rep.sub (k := w.as.length) hw (fun i a _ ha => inv i a ha) d v (Rep.lowOf d v hd) hd
  · exact RepF.sub (k := w.as.length) hw (fun i a _ ha => inv i a ha) fs ws (RepF.lowOf fs ws hd) hd
end

/-! ### a def: its mirror, its promise -/
def startD (n : Nat) (ds : List D) : DEnv := ds.map some ++ List.replicate (n - ds.length) none
def fzF (n : Nat) (st : Store) (fs : List (Str × D)) : List (Str × D) := D.subF (fun j => (fzAll n st []).getD j .non) fs
def mDef (n : Nat) (b : MS) : List D → Store → Res D := fun ds st => match b (startD n ds) st with
  | .fl (.nx _) st' => .ok .non (st'.take st.length)
  | .fl (.rt d) st' => .ok (fz st.length st' d) (st'.take st.length)
  | .exc c fs _ st' => .exc c (fzF st.length st' fs) (st'.take st.length)
  | _ => .stuck
def SpD (T : Tb) (n : Nat) (m : List D → Store → Res D) : Sp := fun vs H Q E => ∃ w st ds, ds.length = n ∧ WH T w H st ∧ Reps T w H ds vs ∧ Post T (Rep T) w H (m ds st) Q E
theorem SpD.len {T : Tb} {n : Nat} {m : List D → Store → Res D} {vs : List V} {H : Hp} {Q : VK} {E : XK} (h : SpD T n m vs H Q E) : vs.length = n := by
  obtain ⟨w, st, ds, e, _, r, _⟩ := h
  rw [← r.len]; exact e
theorem envr_start {T : Tb} {w : Wd} {H : Hp} {N : List Str} {ds : List D} {vs : List V} (r : Reps T w H ds vs) : EnvR T w H (startD N.length ds) (start N vs) := by
  have hl := r.len
  refine ⟨by simp [startD, L2.start, hl], fun i d h => ?_⟩
  have gets : ∀ (ds : List D) (vs : List V) (i : Nat) (d : D), Reps T w H ds vs → ds[i]? = some d → ∃ v, vs[i]? = some v ∧ Rep T w H d v := by
    intro ds
    induction ds with
    | nil => intro vs i d _ h; simp at h
    | cons e es ih =>
      intro vs i d hr h
      obtain ⟨v, q, e1, r1, r2⟩ := hr
      subst e1
      cases i with
      | zero => simp at h; subst h; exact ⟨v, rfl, r1⟩
      | succ i => simp at h; obtain ⟨u, a, b⟩ := ih q i d r2 h; exact ⟨u, by simpa using a, b⟩
  unfold startD at h
  by_cases hi : i < ds.length
  · rw [List.getElem?_append_left (by simpa using hi), List.getElem?_map] at h
    cases e : ds[i]? with
    | none => rw [e] at h; cases h
    | some d' =>
      rw [e] at h
      simp at h
      subst h
      obtain ⟨v, hv, hr⟩ := gets ds vs i d' r e
      refine ⟨v, ?_, hr⟩
      unfold L2.start
      rw [List.getElem?_append_left (by simp; omega), List.getElem?_map, hv]
      rfl
  · rw [List.getElem?_append_right (by simpa using hi), List.getElem?_replicate] at h
    split at h <;> cases h
/-- a def's body in its context -/
def defCt (N : List Str) (sc : Scope) : Ct := ⟨N, sc, fun _ => true, true⟩
section
variable {G : Gd}
/-- THE RULE for a def -/
theorem fn_def {x qual : Str} {st : Stmt} {f : Addr} {fd : FuncData} {N ps : List Str} {k n : Nat} {ms : MS} (F : Fun G.K x qual st f fd) (S : FnScope N ps (defScope st)) (hn : ps.length = n)
    (hb : ∀ E : XK, DSs G (defCt N (defScope st)) k (fun _ => E) (defBody st) ms) : FnOk G.P G.w G.K G.mg G.base (L2N.CX G.P G.w) (k + 1) f fd ps (SpD G.T n (mDef N.length ms)) := by
  obtain ⟨oc, od, kV, doc, pm, an, cdv, ct, osl, rfl, lk, hcd⟩ := F.ex
  refine fn_of (CX := L2N.CX G.P G.w) lk hcd S (fun vs H Q E h => by rw [hn]; exact h.len) fun A outer s H vs Q E hr h => ?_
  obtain ⟨t, h1, h2⟩ := hb E
  refine ⟨t, h1 _ ⟨rfl, rfl, rfl, rfl, rfl, rfl, rfl, rfl, rfl, hr, L2N.takes_of rfl rfl rfl rfl, passes_of rfl, fun _ => ⟨rfl, rfl⟩⟩, ?_⟩
  obtain ⟨w, st0, ds, e, q0, r, hp⟩ := h
  refine h2 w H (start N vs) (startD N.length ds) st0 _ (envr_start r) q0 ?_
  unfold mDef at hp
  cases c : ms (startD N.length ds) st0 with
  | fl fl1 st1 =>
    rw [c] at hp
    cases fl1 with
    | nx env =>
      intro w2 H' σ s2 q2 e2
      obtain ⟨a1, a2, a3, a4⟩ := leave_ok q0 s2 q2
      exact hp w H' .non a1 a2 rfl
    | rt d =>
      intro w2 H' v s2 q2 r2
      obtain ⟨a1, a2, a3, a4⟩ := leave_ok q0 s2 q2
      exact hp w H' v a1 a2 (a3 d v r2)
    | bk env => exact hp.elim
    | ct env => exact hp.elim
  | exc cc fs env st1 =>
    rw [c] at hp
    intro w2 H' σ cls dx s2 q2 e2 x2
    obtain ⟨a1, a2, a3, a4⟩ := leave_ok q0 s2 q2
    obtain ⟨x1, d, ws, x3, x4, x5, x6⟩ := x2
    have hok : w.ok d := by
      obtain ⟨r, hr⟩ := s2.pre
      obtain ⟨pq, hpq, _⟩ := s2.pend
      exact ⟨fun m => x4.1 (by rw [hr]; exact List.mem_append_left _ m), fun m => x4.2 (by rw [hpq]; exact List.mem_append_right _ m)⟩
    exact hp w H' cls dx a1 a2 ⟨x1, d, ws, x3, hok, x5, a4 fs ws x6⟩
  | stuck => rw [c] at hp; exact hp.elim
/-- what is known of a def that is called by its name -/
structure Fd (G : Gd) (x : Str) (n j : Nat) (dvs : List V) (m : List D → Store → Res D) : Prop where
  ex : ∃ (f : Addr) (fd : FuncData) (ps : List Str) (ds : List Value), FnOk G.P G.w G.K G.mg G.base (L2N.CX G.P G.w) j f fd ps (SpD G.T n m) ∧ G.mg x = some (.ref f) ∧ PySem.W.keepIn G.K (.ref f) = true ∧ Binds G.K fd ps ds ∧ Vals dvs ds
variable {c : Ct} {k j n : Nat} {W : St → XK}
/-- the default values as data -/
def ConstD : D → V → Prop := fun d v => ∀ (T : Tb) w H, Rep T w H d v
theorem sim_call {T : Tb} {m : List D → Store → Res D} {t : TA} {ma : MA} {dvs : List V} {dds : List D} (hl : ∀ env st ds st', ma env st = .ok ds st' → ds.length + dds.length = n) (hd : ∀ w H, Reps T w H dds dvs) (ha : SimA T W t ma) :
    SimE T W (tCallSD (SpD T n m) dvs W t) (mCall (fun ds st => m (ds ++ dds) st) ma) := fun as H σ env st Q e w h =>
  ha as H σ env st _ e w (Post.imp h fun ds st1 as1 H1 xs hok s1 w1 r1 h1 => by
    have app : ∀ (ds : List D) (xs : List V), Reps T as1 H1 ds xs → Reps T as1 H1 (ds ++ dds) (xs ++ dvs) := by
      intro ds
      induction ds with
      | nil => intro xs h; rw [show xs = [] from h]; exact hd as1 H1
      | cons a l ih => intro xs h; obtain ⟨v, r, e, h1, h2⟩ := h; subst e; exact ⟨v, r ++ dvs, rfl, h1, ih r h2⟩
    exact ⟨as1, st1, ds ++ dds, by rw [List.length_append]; exact hl env st ds st1 hok, w1, app ds xs r1, h1⟩)
/-- how many values an argument list has -/
inductive ArgN : MA → Nat → Prop where
  | nil : ArgN mNil 0
  | cons {a : ME} {r : MA} {n : Nat} : ArgN r n → ArgN (mCons a r) (n + 1)
theorem ArgN.len {ma : MA} {n : Nat} (h : ArgN ma n) : ∀ env st ds st', ma env st = .ok ds st' → ds.length = n := by
  induction h with
  | nil => intro env st ds st' e; cases e; rfl
  | @cons a r n h ih =>
    intro env st ds st' e
    unfold mCons at e
    cases c1 : a env st with
    | ok d st1 =>
      rw [c1] at e
      simp only [Res.bind] at e
      cases c2 : r env st1 with
      | ok ds2 st2 =>
        rw [c2] at e
        simp only [Res.ok.injEq] at e
        rw [← e.1, List.length_cons, ih env st1 ds2 st2 c2]
      | exc _ _ _ => rw [c2] at e; cases e
      | stuck => rw [c2] at e; cases e
    | exc _ _ _ => rw [c1] at e; cases e
    | stuck => rw [c1] at e; cases e
theorem de_call {x : Str} {p pos : Pos} {e : Expr} {es : List Expr} {m : List D → Store → Res D} {ma : MA} (F : Fd G x n j [] m) (hj : j ≤ k) (hg : c.sc.names.lookup x = some .globalImplicit) (ha : DA G c k W (e :: es) ma) (hl : ArgN ma n)
    (hdb : (x == ("__debug__" : Str)) = false := by decide) (he : ∀ env, starEach (e :: es) env = (false, eval e env) :: starEach es env := by intro _; rfl) (hpl : ∀ env, (backTo pos (starEach es env)).any (·.1) = false := by intro _; rfl) :
    DE G c k W (.Call (.Name x p) (e :: es) [] pos) (mCall m ma) := by
  obtain ⟨f, fd, ps, ds, F1, F2, F3, F4, F5⟩ := F.ex
  obtain ⟨t, h1, h2⟩ := ha
  refine ⟨tCallSD (SpD G.T n m) [] W t, fun X h => ?_, ?_⟩
  · have FX : FnOk X.prog X.w X.K X.mg X.base (L2N.CX X.prog X.w) j f fd ps (SpD G.T n m) := by
      rw [h.prog, h.wd, h.K, h.mg, h.base]; exact F1
    refine pe_callSD FX (h.room.mono hj) (h.gl hg) (by rw [h.mg]; exact F2) (by rw [h.K]; exact F3) (by rw [h.K]; exact F4) F5 (fun σ => L2N.passAt h.tk σ) (h1 X h) hdb (he _) (hpl _)
  · have q := sim_call (T := G.T) (W := W) (m := m) (n := n) (dvs := []) (dds := []) (fun env st ds st' e => by simpa using hl.len env st ds st' e) (fun w H => rfl) h2
    have e : (fun (ds : List D) st => m (ds ++ []) st) = m := by funext ds st; rw [List.append_nil]
    rw [e] at q
    exact q
end
end DL
end
section
set_option Elab.async false
set_option linter.all false
set_option maxRecDepth 100000
set_option maxHeartbeats 2000000
namespace DL
open PySem L2

/-! ### what stands behind a thing: a sequence -/
/-- true: a list -/
def vw (st : Store) : D → Option (Bool × List D)
  | .tup ds => some (false, ds)
  | .ptp ds => some (false, ds)
  | .lst ds => some (true, ds)
  | .scr ds => some (true, ds)
  | .box i => match st[i]? with
    | some (.lst ds) => some (true, ds)
    | _ => none
  | _ => none
/-- a list that may be joined: tracked -/
def vl (st : Store) : D → Option (List D)
  | .lst ds => some ds
  | .box i => match st[i]? with
    | some (.lst ds) => some ds
    | _ => none
  | _ => none
section
variable {T : Tb} {w : Wd} {H : Hp} {st : Store}
theorem vw_rep {d : D} {v : V} {b : Bool} {ds : List D} (q : WH T w H st) (r : Rep T w H d v) (h : vw st d = some (b, ds)) :
    ∃ a vs, v = .ref a ∧ Reps T w H ds vs ∧ (b = true → SqL T.K H a vs) ∧ (b = false → SqT T.K H a vs) := by
  cases d with
  | tup xs =>
    cases h
    obtain ⟨a, vs, e, h1, h2⟩ := r
    exact ⟨a, vs, e, h2, fun z => (by cases z), fun _ => h1.sq⟩
  | ptp xs =>
    cases h
    obtain ⟨a, vs, e, h1, h2⟩ := r
    exact ⟨a, vs, e, h2, fun z => (by cases z), fun _ => h1.tup.sq⟩
  | lst xs =>
    cases h
    obtain ⟨a, vs, e, h1, h2⟩ := r
    exact ⟨a, vs, e, h2, fun _ => h1.sq, fun z => (by cases z)⟩
  | scr xs =>
    cases h
    obtain ⟨a, vs, e, h1, h2⟩ := r
    exact ⟨a, vs, e, h2, fun _ => h1.sq, fun z => (by cases z)⟩
  | box i =>
    obtain ⟨a, e, h1⟩ := r
    unfold vw at h
    dsimp only at h
    cases c : st[i]? with
    | none => rw [c] at h; cases h
    | some mo =>
      rw [c] at h
      cases mo with
      | lst xs =>
        cases h
        obtain ⟨vs, e1, r1⟩ := q.obs i a _ h1 c
        exact ⟨a, vs, e, r1, fun _ => .inl (.inl e1), fun z => (by cases z)⟩
      | dic kvs => cases h
      | ins c fs => cases h
  | _ => cases h
theorem vw_or {d : D} {v : V} {b : Bool} {ds : List D} (q : WH T w H st) (r : Rep T w H d v) (h : vw st d = some (b, ds)) :
    ∃ a vs, v = .ref a ∧ Reps T w H ds vs ∧ (SqL T.K H a vs ∨ SqT T.K H a vs) := by
  obtain ⟨a, vs, e, r1, h1, h2⟩ := vw_rep q r h
  cases b with
  | true => exact ⟨a, vs, e, r1, .inl (h1 rfl)⟩
  | false => exact ⟨a, vs, e, r1, .inr (h2 rfl)⟩
theorem vl_rep {d : D} {v : V} {ds : List D} (q : WH T w H st) (r : Rep T w H d v) (h : vl st d = some ds) : ∃ a vs, v = .ref a ∧ Reps T w H ds vs ∧ H a = some (.lst vs) := by
  cases d with
  | lst xs =>
    cases h
    obtain ⟨a, vs, e, h1, h2⟩ := r
    exact ⟨a, vs, e, h2, h1.2⟩
  | box i =>
    obtain ⟨a, e, h1⟩ := r
    unfold vl at h
    dsimp only at h
    cases c : st[i]? with
    | none => rw [c] at h; cases h
    | some mo =>
      rw [c] at h
      cases mo with
      | lst xs =>
        cases h
        obtain ⟨vs, e1, r1⟩ := q.obs i a _ h1 c
        exact ⟨a, vs, e, r1, e1⟩
      | dic kvs => cases h
      | ins c fs => cases h
  | _ => cases h
theorem reps_get {d : D} : ∀ {ds : List D} {vs : List V} {i : Nat}, Reps T w H ds vs → ds[i]? = some d → ∃ v, vs[i]? = some v ∧ Rep T w H d v
  | e :: es, vs, i, hr, h => by
    obtain ⟨v, q, e1, r1, r2⟩ := hr
    subst e1
    cases i with
    | zero => simp at h; subst h; exact ⟨v, rfl, r1⟩
    | succ i => simp at h; obtain ⟨u, a, b⟩ := reps_get r2 h; exact ⟨u, by simpa using a, b⟩
  | [], vs, i, hr, h => by simp at h
theorem reps_app : ∀ {xs ys : List D} {us vs : List V}, Reps T w H xs us → Reps T w H ys vs → Reps T w H (xs ++ ys) (us ++ vs)
  | [], ys, us, vs, h, k => by rw [show us = [] from h]; exact k
  | d :: xs, ys, us, vs, h, k => by
    obtain ⟨v, q, e1, r1, r2⟩ := h
    subst e1
    exact ⟨v, q ++ vs, rfl, r1, reps_app r2 k⟩
theorem reps_drop : ∀ {xs : List D} {us : List V} (n : Nat), Reps T w H xs us → Reps T w H (xs.drop n) (us.drop n)
  | xs, us, 0, h => h
  | [], us, n + 1, h => by rw [show us = [] from h]; rfl
  | d :: xs, us, n + 1, h => by
    obtain ⟨v, q, e1, r1, r2⟩ := h
    subst e1
    exact reps_drop n r2
theorem reps_take : ∀ {xs : List D} {us : List V} (n : Nat), Reps T w H xs us → Reps T w H (xs.take n) (us.take n)
  | xs, us, 0, h => rfl
  | [], us, n + 1, h => by rw [show us = [] from h]; rfl
  | d :: xs, us, n + 1, h => by
    obtain ⟨v, q, e1, r1, r2⟩ := h
    subst e1
    exact ⟨v, q.take n, rfl, r1, reps_take n r2⟩
end

/-! ### operators -/
def dAdd (d e : D) (st : Store) : Res D := match d.tp, e.tp with
  | .int i, .int j => .ok (.int (i + j)) st
  | .str a, .str b => if a.length + b.length ≤ lim then .ok (.str (a ++ b)) st else .stuck
  | .tup xs, .tup ys => if xs.length + ys.length ≤ lim then .ok (.tup (xs ++ ys)) st else .stuck
  | d, e => match vl st d, vl st e with
    | some xs, some ys => if xs.length + ys.length ≤ lim then .ok (.lst (xs ++ ys)) st else .stuck
    | _, _ => .stuck
def rAddD (K : PySem.W.Frag) : R2 := fun x y H Q => rI0 (fun i j => .int (i + j)) x y H Q ∨ (∃ i j, x = .str i ∧ y = .str j ∧ i.length + j.length ≤ sizeLine ∧ Q (.str (i ++ j)) H) ∨ rCatA K x y H Q ∨ rCat x y H Q
section
variable {G : Gd} {k : Nat} {W : St → XK}
theorem lim_le : lim ≤ sizeLine := Nat.le_of_lt lim_lt
theorem do_add : DOp G W (binaryOp .Add) k dAdd := by
  refine ⟨rAddD G.K, fun X _ _ hK _ _ => ?_, fun σ w H d e x y st Q r1 r2 q h => ?_⟩
  · rw [← hK]
    exact OpR.or op_add (OpR.or op_add_str (OpR.or op_catA op_cat))
  · unfold dAdd at h
    have r1 := r1.tp
    have r2 := r2.tp
    generalize d.tp = d at h r1
    generalize e.tp = e at h r2
    have lists : ∀ xs ys, vl st d = some xs → vl st e = some ys → Post G.T (Rep G.T) w H (if xs.length + ys.length ≤ lim then Res.ok (.lst (xs ++ ys)) st else .stuck) Q (W σ) → rAddD G.K x y H Q := by
      intro xs ys h1 h2 h3
      obtain ⟨a, us, rfl, a1, a2⟩ := vl_rep q r1 h1
      obtain ⟨b, vs, rfl, b1, b2⟩ := vl_rep q r2 h2
      by_cases c : xs.length + ys.length ≤ lim
      · rw [if_pos c] at h3
        have l1 := a1.len
        have l2 := b1.len
        have := lim_le
        refine .inr (.inr (.inr ⟨a, b, us, vs, rfl, rfl, a2, b2, by omega, fun p hp => h3 w _ _ (.node hp) (q.node hp) ⟨p, us ++ vs, rfl, ⟨q.new hp, upd_same⟩, Reps.mono (.node hp) _ _ (reps_app a1 b1)⟩⟩))
      · rw [if_neg c] at h3; exact h3.elim
    split at h
    · exact .inl ⟨_, _, r1, r2, h w H _ .refl q rfl⟩
    · split at h
      · rename_i a b c
        have := lim_le
        exact .inr (.inl ⟨a, b, r1, r2, by omega, h w H _ .refl q rfl⟩)
      · exact h.elim
    · split at h
      · rename_i xs ys c
        obtain ⟨a, us, rfl, a1, a2⟩ := r1
        obtain ⟨b, vs, rfl, b1, b2⟩ := r2
        have l1 := a2.len
        have l2 := b2.len
        have := lim_le
        refine .inr (.inr (.inl ⟨a, b, us, vs, rfl, rfl, a1.sq, b1.sq, by omega, fun z => ?_, fun z z2 => ?_, fun z z2 p hp => ?_⟩))
        · subst z
          have e0 : xs = [] := List.eq_nil_of_length_eq_zero l1
          subst e0
          exact h w H _ .refl q ⟨b, vs, rfl, b1, b2⟩
        · subst z2
          have e0 : ys = [] := List.eq_nil_of_length_eq_zero l2
          subst e0
          rw [List.append_nil] at h
          exact h w H _ .refl q ⟨a, us, rfl, a1, a2⟩
        · exact h w _ _ (.node hp) (q.node hp) ⟨p, us ++ vs, rfl, .inl ⟨q.new hp, .inl upd_same⟩, Reps.mono (.node hp) _ _ (reps_app a2 b2)⟩
      · exact h.elim
    · split at h
      · rename_i xs ys h1 h2
        exact lists xs ys h1 h2 h
      · exact h.elim
/-- on ints -/
def dInt (f : Int → Int → Int) (ok : Int → Int → Bool) (d e : D) (st : Store) : Res D := match d, e with
  | .int i, .int j => if ok i j = true then .ok (.int (f i j)) st else .stuck
  | _, _ => .stuck
theorem do_int {f : Value → Value → Sem Value} {g : Int → Int → Int} {C : Int → Int → Prop} {ok : Int → Int → Bool} (hop : ∀ X : Cx, OpR X f (rI C fun i j => .int (g i j))) (hc : ∀ i j, ok i j = true → C i j) : DOp G W f k (dInt g ok) := by
  refine ⟨_, fun X _ _ _ _ _ => hop X, fun σ w H d e x y st Q r1 r2 q h => ?_⟩
  unfold dInt at h
  split at h
  · split at h
    · rename_i c
      exact ⟨_, _, r1, r2, hc _ _ c, h w H _ .refl q rfl⟩
    · exact h.elim
  · exact h.elim
def dSub : D → D → Store → Res D := dInt (fun i j => i - j) fun _ _ => true
theorem do_sub : DOp G W (binaryOp .Sub) k dSub := do_int (C := fun _ _ => True) (fun X pins s σ H x y v u Q I r1 r2 h => by
  obtain ⟨i, j, e1, e2, _, q⟩ := h
  exact op_sub pins s σ H x y v u Q I r1 r2 ⟨i, j, e1, e2, q⟩) fun _ _ _ => trivial
/-- one factor is small, or both are not too large together -/
def mulOk (i j : Int) : Bool := decide (i.natAbs < 2 ^ 63) || decide (j.natAbs < 2 ^ 63)
def dMul : D → D → Store → Res D := dInt (fun i j => i * j) mulOk
theorem do_mul : DOp G W (binaryOp .Mult) k dMul := do_int (fun X => op_mul) fun i j h => by
  unfold mulOk at h
  rw [Bool.or_eq_true, decide_eq_true_eq, decide_eq_true_eq] at h
  rcases h with h | h
  · exact .inl (by omega)
  · exact .inr (by omega)
def dFdiv : D → D → Store → Res D := dInt (fun i j => i / j) fun _ j => decide (0 < j) && decide (j < 1073741824)
theorem do_fdiv : DOp G W (binaryOp .FloorDiv) k dFdiv := do_int (fun X => op_fdiv) fun i j h => by
  rw [Bool.and_eq_true, decide_eq_true_eq, decide_eq_true_eq] at h
  exact h
def dMod : D → D → Store → Res D := dInt (fun i j => i % j) fun _ j => decide (0 < j)
theorem do_mod : DOp G W (binaryOp .Mod) k dMod := do_int (fun X => op_mod) fun i j h => of_decide_eq_true h
def dPow : D → D → Store → Res D := dInt (fun i j => i ^ j.toNat) fun i j => decide (0 ≤ j) && decide (j ≤ 1000) && decide (i.natAbs < 2 ^ 62)
theorem do_pow : DOp G W (binaryOp .Pow) k dPow := do_int (fun X => op_pow) fun i j h => by
  rw [Bool.and_eq_true, Bool.and_eq_true, decide_eq_true_eq, decide_eq_true_eq, decide_eq_true_eq] at h
  exact ⟨h.1.1, by omega, by omega⟩

/-! ### comparisons -/
/-- plain things -/
def dEqS : D → D → Option Bool
  | .int i, .int j => some (i == j)
  | .str a, .str b => some (a == b)
  | .bl a, .bl b => some (a == b)
  | .non, .non => some true
  | .non, .int _ => some false
  | .int _, .non => some false
  | .non, .bl _ => some false
  | .bl _, .non => some false
  | .non, .str _ => some false
  | .str _, .non => some false
  | .int _, .str _ => some false
  | .str _, .int _ => some false
  | .bl _, .str _ => some false
  | .str _, .bl _ => some false
  | _, _ => none
end
mutual
def D.py : D → Option PyData
  | .non => some .none
  | .bl b => some (.bool b)
  | .int i => some (.int i)
  | .str s => some (.str s)
  | .tup ds => (D.pys ds).map .tuple
  | .ptp ds => (D.pys ds).map .tuple
  | .lst ds => (D.pys ds).map .list
  | .scr ds => (D.pys ds).map .list
  | _ => none
def D.pys : List D → Option (List PyData)
  | [] => some []
  | d :: ds => (D.py d).bind fun p => (D.pys ds).map fun ps => p :: ps
end
section
variable {T : Tb} {w : Wd} {H : Hp} {st : Store}
mutual
theorem Rep.dp : ∀ (d : D) (v : V) (p : PyData), Rep T w H d v → d.py = some p → Dp T.K H v p
  | .non, v, p, h, e => by cases e; rw [show v = .non from h]; exact .non
  | .bl b, v, p, h, e => by cases e; rw [show v = .bl b from h]; exact .bl b
  | .int i, v, p, h, e => by cases e; rw [show v = .int i from h]; exact .int i
  | .str s, v, p, h, e => by cases e; rw [show v = .str s from h]; exact .str s
  | .tup xs, v, p, h, e => by
    obtain ⟨a, vs, rfl, h1, h2⟩ := h
    unfold D.py at e
    cases c : D.pys xs with
    | none => rw [c] at e; cases e
    | some ps => rw [c] at e; cases e; exact .tup h1.sq (Reps.dp xs vs ps h2 c)
  | .ptp xs, v, p, h, e => by
    obtain ⟨a, vs, rfl, h1, h2⟩ := h
    unfold D.py at e
    cases c : D.pys xs with
    | none => rw [c] at e; cases e
    | some ps => rw [c] at e; cases e; exact .tup h1.tup.sq (Reps.dp xs vs ps h2 c)
  | .lst xs, v, p, h, e => by
    obtain ⟨a, vs, rfl, h1, h2⟩ := h
    unfold D.py at e
    cases c : D.pys xs with
    | none => rw [c] at e; cases e
    | some ps => rw [c] at e; cases e; exact .lst h1.sq (Reps.dp xs vs ps h2 c)
  | .scr xs, v, p, h, e => by
    obtain ⟨a, vs, rfl, h1, h2⟩ := h
    unfold D.py at e
    cases c : D.pys xs with
    | none => rw [c] at e; cases e
    | some ps => rw [c] at e; cases e; exact .lst h1.sq (Reps.dp xs vs ps h2 c)
  | .ty n, v, p, h, e => by cases e
  | .cls c, v, p, h, e => by cases e
  | .dic kvs, v, p, h, e => by cases e
  | .obj c fs, v, p, h, e => by cases e
  | .box i, v, p, h, e => by cases e
theorem Reps.dp : ∀ (ds : List D) (vs : List V) (ps : List PyData), Reps T w H ds vs → D.pys ds = some ps → DpAll T.K H vs ps
  | [], vs, ps, h, e => by cases e; rw [show vs = [] from h]; exact .nil
  | d :: ds, vs, ps, h, e => by
    obtain ⟨v, r, rfl, h1, h2⟩ := h
    unfold D.pys at e
    cases c : D.py d with
    | none => rw [c] at e; cases e
    | some p =>
      rw [c] at e
      simp only [Option.bind_some] at e
      cases c2 : D.pys ds with
      | none => rw [c2] at e; cases e
      | some qs => rw [c2] at e; cases e; exact .cons (Rep.dp d v p h1 c) (Reps.dp ds r qs h2 c2)
end
/-- all as trees -/
theorem rep_fz (q : WH T w H st) {d : D} {v : V} (r : Rep T w H d v) : Rep T ⟨[], []⟩ H (fz 0 st d) v := by
  have ok : ∀ b, (Wd.mk [] []).ok b := fun b => ⟨by simp, by simp⟩
  have inv := fz_inv (w0 := ⟨[], []⟩) (n := 0) q (fun b _ => ok b) (Nat.zero_le _) (fun i a hi => absurd hi (Nat.not_lt_zero _)) (fun i a _ _ => ok a) st [] (by simp) (Nat.zero_le _) (fun i a hi => absurd hi (Nat.not_lt_zero _))
  exact Rep.sub (k := w.as.length) (fun b _ => ok b) (fun i a _ ha => inv i a ha) d v (Rep.lowOf d v r) r
end
def dEq (d e : D) (st : Store) : Res D := match dEqS d e with
  | some b => .ok (.bl b) st
  | none => match (fz 0 st d).py, (fz 0 st e).py with
    | some p, some q => if (SeqAt.shaped p && SeqAt.shaped q) = true then .ok (.bl (PyData.eqv p q)) st else .stuck
    | _, _ => .stuck
def dNe (d e : D) (st : Store) : Res D := (dEq d e st).bind fun r st => match r with
  | .bl b => .ok (.bl (!b)) st
  | _ => .stuck
section
variable {G : Gd} {k : Nat} {W : St → XK}
theorem eqS_scal {T : Tb} {w : Wd} {H : Hp} {d e : D} {x y : V} {b : Bool} (r1 : Rep T w H d x) (r2 : Rep T w H e y) (h : dEqS d e = some b) : scal x y = true ∧ decide (x = y) = b := by
  unfold dEqS at h
  split at h <;> first
    | (cases h
       have e1 := r1
       have e2 := r2
       unfold Rep at e1 e2
       subst e1; subst e2
       first
         | exact ⟨rfl, dec_int⟩
         | exact ⟨rfl, dec_str⟩
         | exact ⟨rfl, dec_bl⟩
         | exact ⟨rfl, rfl⟩
         | exact ⟨rfl, by decide⟩
         | exact ⟨rfl, decide_eq_false (fun z => nomatch z)⟩)
    | cases h
theorem do_eq : DOp G W (compareOp .Eq) k dEq := by
  refine ⟨fun x y H Q => rEq x y H Q ∨ rEqD G.K x y H Q, fun X _ _ hK _ hr => ?_, fun σ w H d e x y st Q r1 r2 q h => ?_⟩
  · rw [← hK]
    exact OpR.or op_eq (op_eqD hr.units)
  · unfold dEq at h
    split at h
    · rename_i b hb
      obtain ⟨a1, a2⟩ := eqS_scal r1 r2 hb
      exact .inl ⟨a1, h w H _ .refl q (by rw [a2]; exact rfl)⟩
    · split at h
      · rename_i p p2 h1 h2
        split at h
        · rename_i hs
          rw [Bool.and_eq_true] at hs
          exact .inr ⟨p, p2, Rep.dp _ _ _ (rep_fz q r1) h1, Rep.dp _ _ _ (rep_fz q r2) h2, hs.1, hs.2, h w H _ .refl q rfl⟩
        · exact h.elim
      · exact h.elim
theorem do_ne : DOp G W (compareOp .NotEq) k dNe := by
  refine ⟨fun x y H Q => rNe x y H Q ∨ rNeD G.K x y H Q, fun X _ _ hK _ hr => ?_, fun σ w H d e x y st Q r1 r2 q h => ?_⟩
  · rw [← hK]
    exact OpR.or op_ne (op_neD hr.units)
  · unfold dNe dEq at h
    split at h
    · rename_i b hb
      obtain ⟨a1, a2⟩ := eqS_scal r1 r2 hb
      exact .inl ⟨a1, h w H _ .refl q (by rw [a2]; exact rfl)⟩
    · split at h
      · rename_i p p2 h1 h2
        split at h
        · rename_i hs
          rw [Bool.and_eq_true] at hs
          exact .inr ⟨p, p2, Rep.dp _ _ _ (rep_fz q r1) h1, Rep.dp _ _ _ (rep_fz q r2) h2, hs.1, hs.2, h w H _ .refl q rfl⟩
        · exact h.elim
      · exact h.elim
/-- order: of ints, of texts -/
def dOrd (f : Int → Int → Bool) (g : Str → Str → Bool) (d e : D) (st : Store) : Res D := match d, e with
  | .int i, .int j => .ok (.bl (f i j)) st
  | .str a, .str b => .ok (.bl (g a b)) st
  | _, _ => .stuck
def sLt (a b : Str) : Bool := decide (a.cps.toList < b.cps.toList)
def dLt : D → D → Store → Res D := dOrd (fun i j => decide (i < j)) fun a b => sLt a b
def dGt : D → D → Store → Res D := dOrd (fun i j => decide (j < i)) fun a b => sLt b a
def dLe : D → D → Store → Res D := dOrd (fun i j => decide (i ≤ j)) fun a b => !sLt b a
def dGe : D → D → Store → Res D := dOrd (fun i j => decide (j ≤ i)) fun a b => !sLt a b
theorem do_ord {o : CmpOp} {f : Int → Int → Bool} {g : Str → Str → Bool} (h1 : ∀ X : Cx, OpR X (compareOp o) (rI0 fun i j => .bl (f i j))) (h2 : ∀ X : Cx, OpR X (compareOp o) (fun x y H Q => ∃ i j, x = .str i ∧ y = .str j ∧ Q (.bl (g i j)) H)) : DOp G W (compareOp o) k (dOrd f g) := by
  refine ⟨_, fun X _ _ _ _ _ => OpR.or (h1 X) (h2 X), fun σ w H d e x y st Q r1 r2 q h => ?_⟩
  unfold dOrd at h
  split at h
  · exact .inl ⟨_, _, r1, r2, h w H _ .refl q rfl⟩
  · exact .inr ⟨_, _, r1, r2, h w H _ .refl q rfl⟩
  · exact h.elim
theorem do_lt : DOp G W (compareOp .Lt) k dLt := do_ord (fun X => op_lt) fun X => op_lt_str
theorem do_gt : DOp G W (compareOp .Gt) k dGt := do_ord (fun X => op_gt) fun X => op_gt_str
theorem do_le : DOp G W (compareOp .LtE) k dLe := do_ord (fun X => op_le) fun X => op_le_str
theorem do_ge : DOp G W (compareOp .GtE) k dGe := do_ord (fun X => op_ge) fun X => op_ge_str
/-- is None -/
def D.isNon : D → Bool
  | .non => true
  | _ => false
theorem isNon_v {T : Tb} {w : Wd} {H : Hp} {d : D} {x : V} (r : Rep T w H d x) : decide (x = .non) = d.isNon := by
  cases d with
  | non => rw [show x = .non from r]; rfl
  | bl b => rw [show x = .bl b from r]; exact decide_eq_false fun z => nomatch z
  | int b => rw [show x = .int b from r]; exact decide_eq_false fun z => nomatch z
  | str b => rw [show x = .str b from r]; exact decide_eq_false fun z => nomatch z
  | ty b => rw [show x = .ty b from r]; exact decide_eq_false fun z => nomatch z
  | cls b => rw [show x = .ref (T.C b) from r]; exact decide_eq_false fun z => nomatch z
  | tup xs => obtain ⟨a, vs, rfl, _⟩ := r; exact decide_eq_false fun z => nomatch z
  | ptp xs => obtain ⟨a, vs, rfl, _⟩ := r; exact decide_eq_false fun z => nomatch z
  | lst xs => obtain ⟨a, vs, rfl, _⟩ := r; exact decide_eq_false fun z => nomatch z
  | scr xs => obtain ⟨a, vs, rfl, _⟩ := r; exact decide_eq_false fun z => nomatch z
  | dic kvs => obtain ⟨a, vs, rfl, _⟩ := r; exact decide_eq_false fun z => nomatch z
  | obj c fs => obtain ⟨a, dx, vs, rfl, _⟩ := r; exact decide_eq_false fun z => nomatch z
  | box i => obtain ⟨a, rfl, _⟩ := r; exact decide_eq_false fun z => nomatch z
def dIsN (d _ : D) (st : Store) : Res D := .ok (.bl d.isNon) st
def dNotN (d _ : D) (st : Store) : Res D := .ok (.bl (!d.isNon)) st
variable {c : Ct} {a b : Expr} {ma mb : ME} {pos pos' : Pos} {j : Nat}
def mIsN (m : ME) : ME := mUn (fun d st => .ok (.bl d.isNon) st) m
def mNotN (m : ME) : ME := mUn (fun d st => .ok (.bl (!d.isNon)) st) m
theorem de_isN (ha : DE G c k W a ma) : DE G c k W (.Compare a [.Is] [.Constant .none j pos'] pos) (mIsN ma) := by
  obtain ⟨t, h1, h2⟩ := ha
  exact ⟨_, fun X h => pe_cmp (pc_isN (h1 X h)) rfl, sim_un (r := fun x H Q => Q (.bl (decide (x = .non))) H) (fun σ w H d x st Q r q h => by
    have e := isNon_v r
    dsimp only
    rw [e]
    exact h w H _ .refl q rfl) h2⟩
theorem de_notN (ha : DE G c k W a ma) : DE G c k W (.Compare a [.IsNot] [.Constant .none j pos'] pos) (mNotN ma) := by
  obtain ⟨t, h1, h2⟩ := ha
  exact ⟨_, fun X h => pe_cmp (pc_notN (h1 X h)) rfl, sim_un (r := fun x H Q => Q (.bl (!decide (x = .non))) H) (fun σ w H d x st Q r q h => by
    have e := isNon_v r
    dsimp only
    rw [e]
    exact h w H _ .refl q rfl) h2⟩
theorem dt_isN (ha : DE G c k W a ma) : DT G c k W (.Compare a [.Is] [.Constant .none j pos'] pos) (mTest (mIsN ma)) := by
  obtain ⟨t, h1, h2⟩ := ha
  exact ⟨_, fun X h => pt_cmp (pc_isN (h1 X h)) rfl, sim_testB (sim_un (r := fun x H Q => Q (.bl (decide (x = .non))) H) (fun σ w H d x st Q r q h => by
    have e := isNon_v r
    dsimp only
    rw [e]
    exact h w H _ .refl q rfl) h2)⟩
theorem dt_notN (ha : DE G c k W a ma) : DT G c k W (.Compare a [.IsNot] [.Constant .none j pos'] pos) (mTest (mNotN ma)) := by
  obtain ⟨t, h1, h2⟩ := ha
  exact ⟨_, fun X h => pt_cmp (pc_notN (h1 X h)) rfl, sim_testB (sim_un (r := fun x H Q => Q (.bl (!decide (x = .non))) H) (fun σ w H d x st Q r q h => by
    have e := isNon_v r
    dsimp only
    rw [e]
    exact h w H _ .refl q rfl) h2)⟩
end
end DL
end
section
set_option Elab.async false
set_option linter.all false
set_option maxRecDepth 100000
set_option maxHeartbeats 2000000
namespace DL
open PySem L2

/-! ### places, slices -/
def oneSign (c : Nat) : Str := ⟨#[c]⟩
def dIx (d e : D) (st : Store) : Res D := match e with
  | .int i => match vw st d with
    | some (_, ds) => match atI ds i with
      | some x => .ok x st
      | none => .stuck
    | none => match d with
      | .str z => if z.length ≤ lim then (match atI z.cps.toList i with
        | some c => .ok (.str (oneSign c)) st
        | none => .stuck) else .stuck
      | _ => .stuck
  | _ => .stuck
theorem atI_rep {T : Tb} {w : Wd} {H : Hp} {ds : List D} {vs : List V} {i : Int} {x : D} (r : Reps T w H ds vs) (h : atI ds i = some x) : ∃ v, atI vs i = some v ∧ Rep T w H x v := by
  unfold atI at h ⊢
  rw [← r.len]
  cases c : ixN ds.length i with
  | none => rw [c] at h; cases h
  | some j =>
    rw [c] at h
    exact reps_get r h
section
variable {G : Gd} {c : Ct} {k : Nat} {W : St → XK} {a b : Expr} {ma mb : ME} {pos : Pos}
def plainI : Expr → Bool
  | .Name _ _ => true
  | .Constant _ _ _ => true
  | .BinOp _ _ _ _ => true
  | .UnaryOp _ _ _ => true
  | .Call _ _ _ _ => true
  | .Subscript _ _ _ => true
  | .Attribute _ _ _ => true
  | .IfExp _ _ _ _ => true
  | _ => false
theorem de_ix (ha : DE G c k W a ma) (hb : DE G c k W b mb) (hs : PlainIx b := by exact fun _ _ => rfl) : DE G c k W (.Subscript a b pos) (mOp dIx ma mb) := by
  obtain ⟨t, h1, h2⟩ := ha
  obtain ⟨u, h3, h4⟩ := hb
  refine ⟨tOp (rIx G.K) t u, fun X h => ?_, sim_op (fun σ w H d e x y st Q r1 r2 q h => ?_) h2 h4⟩
  · rw [← h.K]
    exact pe_ix ix_seq (h1 X h) (h3 X h) hs
  · unfold dIx at h
    split at h
    · rename_i i
      have ey : y = .int i := r2
      split at h
      · rename_i bb ds hv
        obtain ⟨p, vs, rfl, rr, l1, l2⟩ := vw_rep q r1 hv
        split at h
        · rename_i xx hx
          obtain ⟨v, hv2, rv⟩ := atI_rep rr hx
          cases bb with
          | true => exact .inl ⟨p, vs, i, v, rfl, ey, l1 rfl, hv2, h w H v .refl q rv⟩
          | false => exact .inr (.inl ⟨p, vs, i, v, rfl, ey, l2 rfl, hv2, h w H v .refl q rv⟩)
        · exact h.elim
      · split at h
        · rename_i z
          split at h
          · rename_i hz
            split at h
            · rename_i cc hc
              exact .inr (.inr ⟨_, i, cc, r1, ey, Nat.le_trans hz lim_le, hc, h w H _ .refl q rfl⟩)
            · exact h.elim
          · exact h.elim
        · exact h.elim
    · exact h.elim
/-- parts of a slice -/
abbrev MO_ := DEnv → Store → Res (Option Int)
def mPn : MO_ := fun _ st => .ok none st
def mPs (m : ME) : MO_ := fun env st => (m env st).bind fun d st1 => match d with
  | .int i => .ok (some i) st1
  | _ => .stuck
def SimO (T : Tb) (W : St → XK) (t : TO) (m : MO_) : Prop := ∀ as H σ env st (Q : Option Int → Hp → Prop), EnvR T as H env σ → WH T as H st → Post T (fun _ _ a b => a = b) as H (m env st) Q (W σ) → t σ H Q
def DO (G : Gd) (c : Ct) (k : Nat) (W : St → XK) (e : Option Expr) (m : MO_) : Prop := ∃ t, (∀ X, In G c k W X → PO X e t) ∧ SimO G.T W t m
theorem dp_n : DO G c k W none mPn := ⟨_, fun X h => po_none, fun as H σ env st Q e w h => h as H none .refl w rfl⟩
theorem dp_s (ha : DE G c k W a ma) : DO G c k W (some a) (mPs ma) := by
  obtain ⟨t, h1, h2⟩ := ha
  refine ⟨_, fun X h => po_some (h1 X h), fun as H σ env st Q e w h => ?_⟩
  exact h2 as H σ env st _ e w (Post.imp h fun d st1 as1 H1 x _ s1 w1 r1 h1 => by
    split at h1
    · exact ⟨_, r1, h1 as1 H1 _ .refl w1 rfl⟩
    · exact h1.elim)
def cutD {α : Type} (xs : List α) (lo hi : Option Int) : List α := (xs.drop (HT.sIx xs.length 0 lo)).take (HT.sIx xs.length xs.length hi - HT.sIx xs.length 0 lo)
def dSl (d : D) (lo hi : Option Int) (st : Store) : Res D := match d with
  | .str z => if z.length ≤ lim then .ok (.str (cutS z lo hi)) st else .stuck
  | d => match vw st d with
    | some (true, ds) => .ok (.lst (cutD ds lo hi)) st
    | some (false, ds) => .ok (.tup (cutD ds lo hi)) st
    | none => .stuck
def mSl (m : ME) (l h : MO_) : ME := fun env st => (m env st).bind fun d st1 => (l env st1).bind fun lo st2 => (h env st2).bind fun hi st3 => dSl d lo hi st3
theorem de_slice {lo hi : Option Expr} {ml mh : MO_} {p2 : Pos} (ha : DE G c k W a ma) (hl : DO G c k W lo ml) (hh : DO G c k W hi mh) : DE G c k W (.Subscript a (.Slice lo hi none p2) pos) (mSl ma ml mh) := by
  obtain ⟨t, h1, h2⟩ := ha
  obtain ⟨u, h3, h4⟩ := hl
  obtain ⟨v, h5, h6⟩ := hh
  refine ⟨tSl (fun x lo hi H Q => rSlS x lo hi H Q ∨ rSlL G.K x lo hi H Q ∨ rSlA G.K x lo hi H Q) t u v, fun X h => ?_, fun as H σ env st Q e w h => ?_⟩
  · rw [← h.K]
    exact pe_slice (SlR.or sl_str (SlR.or sl_list sl_tupA)) (h1 X h) (h3 X h) (h5 X h)
  · refine h2 as H σ env st _ e w (Post.imp h fun d st1 as1 H1 x _ s1 w1 r1 h1 => ?_)
    refine h4 as1 H1 σ env st1 _ (e.mono s1) w1 (Post.imp h1 fun lo st2 as2 H2 l _ s2 w2 rl h2 => ?_)
    subst rl
    refine h6 as2 H2 σ env st2 _ (e.mono (s1.trans s2)) w2 (Post.imp h2 fun hi st3 as3 H3 u _ s3 w3 ru h3 => ?_)
    subst ru
    have rd := Rep.mono (s2.trans s3) _ _ r1
    unfold dSl at h3
    split at h3
    · rename_i z
      split at h3
      · rename_i hz
        exact .inl ⟨_, rd, Nat.le_trans hz lim_le, h3 as3 H3 _ .refl w3 rfl⟩
      · exact h3.elim
    · split at h3
      · rename_i ds hv
        obtain ⟨p, vs, rfl, rr, l1, l2⟩ := vw_rep w3 rd hv
        refine .inr (.inl ⟨p, vs, rfl, l1 rfl, fun q hq => h3 as3 _ _ (.node hq) (w3.node hq) ⟨q, cutV vs lo hi, rfl, ⟨w3.new hq, upd_same⟩, Reps.mono (.node hq) _ _ ?_⟩⟩)
        unfold cutD cutV
        rw [← rr.len]
        exact reps_take _ (reps_drop _ rr)
      · rename_i ds hv
        have rd := rd.tp
        have hv : vw st3 d.tp = some (false, ds) := by
          cases d <;> exact hv
        generalize d.tp = d at rd hv
        have hd : ∃ xs, d = .tup xs ∨ d = .ptp xs := by
          cases d with
          | tup xs => exact ⟨xs, .inl rfl⟩
          | ptp xs => exact ⟨xs, .inr rfl⟩
          | box i =>
            unfold vw at hv
            dsimp only at hv
            split at hv <;> cases hv
          | _ => cases hv
        obtain ⟨xs, hd⟩ := hd
        have rd : Rep G.T as3 H3 (.tup xs) x := by
          rcases hd with rfl | rfl
          · exact rd
          · exact rd.tp
        have hv : ds = xs := by
          rcases hd with rfl | rfl
          · cases hv; rfl
          · cases hv; rfl
        subst hv
        obtain ⟨p, vs, rfl, a1, rr⟩ := rd
        have e0 : cutD ds lo hi = cutD ds lo hi := rfl
        refine .inr (.inr ⟨p, vs, rfl, a1.sq, fun z => ?_, fun z q hq => ?_⟩)
        · have ec : cutD ds lo hi = ds := by
            unfold cutD
            rw [rr.len, z.1, z.2, Nat.sub_zero, List.drop_zero, ← rr.len, List.take_length]
          rw [ec] at h3
          exact h3 as3 H3 _ .refl w3 ⟨p, vs, rfl, a1, rr⟩
        · refine h3 as3 _ _ (.node hq) (w3.node hq) ⟨q, cutV vs lo hi, rfl, .inl ⟨w3.new hq, .inl upd_same⟩, Reps.mono (.node hq) _ _ ?_⟩
          unfold cutD cutV
          rw [← rr.len]
          exact reps_take _ (reps_drop _ rr)
      · exact h3.elim

/-! ### calls of what is built in -/
/-- a built-in function or type by its name -/
def DB (G : Gd) (W : St → XK) (k : Nat) (v : Value) (f : List D → Store → Res D) : Prop := ∃ r, (∀ X : Cx, X.prog = G.P → X.w = G.w → X.K = G.K → X.calm = true → Room k X.A → CallR X v r) ∧ ∀ σ, SimC G.T (W σ) r f
theorem de_blt {x : Str} {id : String} {p : Pos} {e : Expr} {es : List Expr} {m : MA} {f : List D → Store → Res D} (hb : DB G W k (.builtin id) f) (hm : G.mg x = none) (hg : c.sc.names.lookup x = some .globalImplicit) (hv : bootBuiltins x = some (.builtin id)) (ha : DA G c k W (e :: es) m)
    (hn : x ≠ "__name__" := by decide) (hdb : (x == ("__debug__" : Str)) = false := by decide) (he : ∀ env, starEach (e :: es) env = (false, eval e env) :: starEach es env := by intro _; rfl) (hpl : ∀ env, (backTo pos (starEach es env)).any (·.1) = false := by intro _; rfl) :
    DE G c k W (.Call (.Name x p) (e :: es) [] pos) (mCall f m) := by
  obtain ⟨r, h1, h2⟩ := hb
  obtain ⟨t, h3, h4⟩ := ha
  exact ⟨tCB r t, fun X h => pe_callB (h1 X h.prog h.wd h.K h.calm h.room) (h.gl hg) (by rw [h.mg]; exact hm) hv (h3 X h) hn hdb (he _) (hpl _), sim_cb h2 h4⟩
theorem de_ty {x : Str} {id : String} {p : Pos} {e : Expr} {es : List Expr} {m : MA} {f : List D → Store → Res D} (hb : DB G W k (.type id) f) (hm : G.mg x = none) (hg : c.sc.names.lookup x = some .globalImplicit) (hv : bootBuiltins x = some (.type id)) (ha : DA G c k W (e :: es) m)
    (hn : x ≠ "__name__" := by decide) (hdb : (x == ("__debug__" : Str)) = false := by decide) (he : ∀ env, starEach (e :: es) env = (false, eval e env) :: starEach es env := by intro _; rfl) (hpl : ∀ env, (backTo pos (starEach es env)).any (·.1) = false := by intro _; rfl) :
    DE G c k W (.Call (.Name x p) (e :: es) [] pos) (mCall f m) := by
  obtain ⟨r, h1, h2⟩ := hb
  obtain ⟨t, h3, h4⟩ := ha
  exact ⟨tCB r t, fun X h => pe_callTy (h1 X h.prog h.wd h.K h.calm h.room) (h.gl hg) (by rw [h.mg]; exact hm) hv (h3 X h) hn hdb (he _) (hpl _), sim_cb h2 h4⟩
/-- one argument -/
theorem reps1 {T : Tb} {w : Wd} {H : Hp} {d : D} {xs : List V} (r : Reps T w H [d] xs) : ∃ v, xs = [v] ∧ Rep T w H d v := by
  obtain ⟨v, q, e, h1, h2⟩ := r
  rw [show q = [] from h2] at e
  exact ⟨v, e, h1⟩
theorem reps2 {T : Tb} {w : Wd} {H : Hp} {d e : D} {xs : List V} (r : Reps T w H [d, e] xs) : ∃ v u, xs = [v, u] ∧ Rep T w H d v ∧ Rep T w H e u := by
  obtain ⟨v, q, e1, h1, h2⟩ := r
  obtain ⟨u, e2, h3⟩ := reps1 h2
  rw [e2] at e1
  exact ⟨v, u, e1, h1, h3⟩
def bLen (ds : List D) (st : Store) : Res D := match ds with
  | [d] => match vw st d with
    | some (_, xs) => .ok (.int xs.length) st
    | none => match d with
      | .str z => if z.length ≤ lim then .ok (.int z.length) st else .stuck
      | _ => .stuck
  | _ => .stuck
theorem db_len : DB G W k (.builtin "len") bLen := by
  refine ⟨fun xs H Q => ∃ x n, xs = [x] ∧ LenV G.K x H n ∧ Q (.int n) H, fun X _ _ hK _ _ => ?_, fun σ w H ds xs st Q r q h => ?_⟩
  · rw [← hK]; exact call_len
  · unfold bLen at h
    split at h
    · rename_i d
      obtain ⟨v, rfl, rd⟩ := reps1 r
      split at h
      · rename_i bb ys hv
        obtain ⟨p, vs, rfl, rr, l⟩ := vw_or q rd hv
        refine ⟨_, ys.length, rfl, ?_, h w H _ .refl q rfl⟩
        rcases l with l | l
        · exact .inl ⟨vs, l, rr.len⟩
        · exact .inr ⟨vs, l, rr.len⟩
      · split at h
        · split at h
          · rename_i hz
            exact ⟨_, _, rfl, (by rw [show v = .str _ from rd]; exact ⟨Nat.le_trans hz lim_le, rfl⟩), h w H _ .refl q rfl⟩
          · exact h.elim
        · exact h.elim
    · exact h.elim
def bTuple (ds : List D) (st : Store) : Res D := match ds with
  | [d] => match vw st d with
    | some (_, xs) => .ok (.tup xs) st
    | none => .stuck
  | _ => .stuck
theorem db_tuple : DB G W k (.type "tuple") bTuple := by
  refine ⟨fun xs H Q => ∃ p ys, xs = [.ref p] ∧ ((SqL G.K H p ys ∧ ∀ l, H l = none → Q (.ref l) (upd H l (.tup ys))) ∨ (SqT G.K H p ys ∧ Q (.ref p) H)), fun X _ _ hK _ _ => ?_, fun σ w H ds xs st Q r q h => ?_⟩
  · rw [← hK]; exact call_tuple_of
  · unfold bTuple at h
    split at h
    · rename_i d
      obtain ⟨v, rfl, rd⟩ := reps1 r
      split at h
      · rename_i bb ys hv
        cases bb with
        | true =>
          obtain ⟨p, vs, rfl, rr, l1, l2⟩ := vw_rep q rd hv
          exact ⟨p, vs, rfl, .inl ⟨l1 rfl, fun l hl => h w _ _ (.node hl) (q.node hl) ⟨l, vs, rfl, .inl ⟨q.new hl, .inl upd_same⟩, Reps.mono (.node hl) _ _ rr⟩⟩⟩
        | false =>
          have rd := rd.tp
          have hv : vw st d.tp = some (false, ys) := by
            cases d <;> exact hv
          have hnp : ∀ xs, d.tp ≠ .ptp xs := by
            intro xs
            cases d <;> exact fun z => nomatch z
          generalize d.tp = d at rd hv hnp
          have hd : d = .tup ys := by
            cases d with
            | tup xs => cases hv; rfl
            | ptp xs => exact absurd rfl (hnp xs)
            | box i =>
              unfold vw at hv
              dsimp only at hv
              split at hv <;> cases hv
            | _ => cases hv
          subst hd
          obtain ⟨p, vs, rfl, a1, rr⟩ := id rd
          exact ⟨p, vs, rfl, .inr ⟨a1.sq, h w H _ .refl q rd⟩⟩
      · exact h.elim
    · exact h.elim
def bList (ds : List D) (st : Store) : Res D := match ds with
  | [d] => match vw st d with
    | some (_, xs) => .ok (.lst xs) st
    | none => .stuck
  | _ => .stuck
def bListM (ds : List D) (st : Store) : Res D := match ds with
  | [d] => match vw st d with
    | some (_, xs) => if D.lows st.length xs = true then .ok (.box st.length) (st ++ [.lst xs]) else .stuck
    | none => .stuck
  | _ => .stuck
theorem db_list : DB G W k (.type "list") bList := by
  refine ⟨fun xs H Q => ∃ p ys, xs = [.ref p] ∧ (SqL G.K H p ys ∨ SqT G.K H p ys) ∧ ∀ l, H l = none → Q (.ref l) (upd H l (.lst ys)), fun X _ _ hK _ _ => ?_, fun σ w H ds xs st Q r q h => ?_⟩
  · rw [← hK]; exact call_list_of
  · unfold bList at h
    split at h
    · rename_i d
      obtain ⟨v, rfl, rd⟩ := reps1 r
      split at h
      · rename_i bb ys hv
        obtain ⟨p, vs, rfl, rr, l⟩ := vw_or q rd hv
        exact ⟨p, vs, rfl, l, fun l hl => h w _ _ (.node hl) (q.node hl) ⟨l, vs, rfl, ⟨q.new hl, upd_same⟩, Reps.mono (.node hl) _ _ rr⟩⟩
      · exact h.elim
    · exact h.elim
theorem db_listM : DB G W k (.type "list") bListM := by
  refine ⟨fun xs H Q => ∃ p ys, xs = [.ref p] ∧ (SqL G.K H p ys ∨ SqT G.K H p ys) ∧ ∀ l, H l = none → Q (.ref l) (upd H l (.lst ys)), fun X _ _ hK _ _ => ?_, fun σ w H ds xs st Q r q h => ?_⟩
  · rw [← hK]; exact call_list_of
  · unfold bListM at h
    split at h
    · rename_i d
      obtain ⟨v, rfl, rd⟩ := reps1 r
      split at h
      · rename_i bb ys hv
        split at h
        · rename_i hlo
          obtain ⟨p, vs, rfl, rr, l⟩ := vw_or q rd hv
          refine ⟨p, vs, rfl, l, fun l hl => h (w.add l) _ _ (.obj hl) (q.obj hl ⟨vs, upd_same, Reps.mono (.obj hl) _ _ rr⟩ hlo) ⟨l, rfl, ?_⟩⟩
          show (w.as ++ [l])[st.length]? = some l
          rw [← q.len, List.getElem?_append_right (Nat.le_refl _), Nat.sub_self]
          rfl
        · exact h.elim
      · exact h.elim
    · exact h.elim
def D.bls : List D → Option (List Bool)
  | [] => some []
  | .bl b :: r => (D.bls r).map fun bs => b :: bs
  | _ => none
def D.ints : List D → Option (List Int)
  | [] => some []
  | .int b :: r => (D.ints r).map fun bs => b :: bs
  | _ => none
def D.strs : List D → Option (List Str)
  | [] => some []
  | .str b :: r => (D.strs r).map fun bs => b :: bs
  | _ => none
section
variable {T : Tb} {w : Wd} {H : Hp}
theorem reps_bls : ∀ {ds : List D} {vs : List V} {bs : List Bool}, Reps T w H ds vs → D.bls ds = some bs → vs = bs.map V.bl
  | [], vs, bs, r, h => by cases h; rw [show vs = [] from r]; rfl
  | d :: ds, vs, bs, r, h => by
    obtain ⟨v, q, rfl, r1, r2⟩ := r
    unfold D.bls at h
    split at h
    · rename_i e; cases e
    · rename_i b rr e
      cases e
      cases c : D.bls ds with
      | none => rw [c] at h; cases h
      | some xs => rw [c] at h; cases h; rw [reps_bls r2 c, show v = .bl b from r1]; rfl
    · cases h
theorem reps_ints : ∀ {ds : List D} {vs : List V} {bs : List Int}, Reps T w H ds vs → D.ints ds = some bs → vs = bs.map V.int
  | [], vs, bs, r, h => by cases h; rw [show vs = [] from r]; rfl
  | d :: ds, vs, bs, r, h => by
    obtain ⟨v, q, rfl, r1, r2⟩ := r
    unfold D.ints at h
    split at h
    · rename_i e; cases e
    · rename_i b rr e
      cases e
      cases c : D.ints ds with
      | none => rw [c] at h; cases h
      | some xs => rw [c] at h; cases h; rw [reps_ints r2 c, show v = .int b from r1]; rfl
    · cases h
theorem reps_strs : ∀ {ds : List D} {vs : List V} {bs : List Str}, Reps T w H ds vs → D.strs ds = some bs → vs = bs.map V.str
  | [], vs, bs, r, h => by cases h; rw [show vs = [] from r]; rfl
  | d :: ds, vs, bs, r, h => by
    obtain ⟨v, q, rfl, r1, r2⟩ := r
    unfold D.strs at h
    split at h
    · rename_i e; cases e
    · rename_i b rr e
      cases e
      cases c : D.strs ds with
      | none => rw [c] at h; cases h
      | some xs => rw [c] at h; cases h; rw [reps_strs r2 c, show v = .str b from r1]; rfl
    · cases h
theorem reps_of_strs : ∀ (bs : List Str), Reps T w H (bs.map D.str) (bs.map V.str)
  | [] => rfl
  | b :: bs => ⟨.str b, bs.map V.str, rfl, rfl, reps_of_strs bs⟩
end
def bAll (ds : List D) (st : Store) : Res D := match ds with
  | [d] => match vw st d with
    | some (true, xs) => match D.bls xs with
      | some bs => .ok (.bl (bs.all id)) st
      | none => .stuck
    | _ => .stuck
  | _ => .stuck
def bAny (ds : List D) (st : Store) : Res D := match ds with
  | [d] => match vw st d with
    | some (true, xs) => match D.bls xs with
      | some bs => .ok (.bl (bs.any id)) st
      | none => .stuck
    | _ => .stuck
  | _ => .stuck
def bSum (ds : List D) (st : Store) : Res D := match ds with
  | [d] => match vw st d with
    | some (true, xs) => match D.ints xs with
      | some bs => .ok (.int bs.sum) st
      | none => .stuck
    | _ => .stuck
  | _ => .stuck
theorem db_all : DB G W k (.builtin "all") bAll := by
  refine ⟨rAll G.K, fun X _ _ hK hc _ => by rw [← hK]; exact cr_all hc, fun σ w H ds xs st Q r q h => ?_⟩
  unfold bAll at h
  split at h
  · obtain ⟨v, rfl, rd⟩ := reps1 r
    split at h
    · rename_i ys hv
      obtain ⟨p, vs, rfl, rr, l1, l2⟩ := vw_rep q rd hv
      split at h
      · rename_i bs hb
        exact ⟨p, bs, rfl, by rw [← reps_bls rr hb]; exact l1 rfl, h w H _ .refl q rfl⟩
      · exact h.elim
    · exact h.elim
  · exact h.elim
theorem db_any : DB G W k (.builtin "any") bAny := by
  refine ⟨rAny G.K, fun X _ _ hK hc _ => by rw [← hK]; exact cr_any hc, fun σ w H ds xs st Q r q h => ?_⟩
  unfold bAny at h
  split at h
  · obtain ⟨v, rfl, rd⟩ := reps1 r
    split at h
    · rename_i ys hv
      obtain ⟨p, vs, rfl, rr, l1, l2⟩ := vw_rep q rd hv
      split at h
      · rename_i bs hb
        exact ⟨p, bs, rfl, by rw [← reps_bls rr hb]; exact l1 rfl, h w H _ .refl q rfl⟩
      · exact h.elim
    · exact h.elim
  · exact h.elim
theorem db_sum : DB G W k (.builtin "sum") bSum := by
  refine ⟨rSum G.K, fun X _ _ hK hc _ => by rw [← hK]; exact cr_sum hc, fun σ w H ds xs st Q r q h => ?_⟩
  unfold bSum at h
  split at h
  · obtain ⟨v, rfl, rd⟩ := reps1 r
    split at h
    · rename_i ys hv
      obtain ⟨p, vs, rfl, rr, l1, l2⟩ := vw_rep q rd hv
      split at h
      · rename_i bs hb
        exact ⟨p, bs, rfl, by rw [← reps_ints rr hb]; exact l1 rfl, h w H _ .refl q rfl⟩
      · exact h.elim
    · exact h.elim
  · exact h.elim
def bInt (ds : List D) (st : Store) : Res D := match ds with
  | [.int i] => .ok (.int i) st
  | [.bl b] => .ok (.int (if b then 1 else 0)) st
  | _ => .stuck
theorem db_int : DB G W k (.type "int") bInt := by
  refine ⟨_, fun X _ _ _ _ _ => call_int1, fun σ w H ds xs st Q r q h => ?_⟩
  unfold bInt at h
  split at h
  · obtain ⟨v, rfl, rd⟩ := reps1 r
    exact .inl ⟨_, by rw [show v = _ from rd], h w H _ .refl q rfl⟩
  · obtain ⟨v, rfl, rd⟩ := reps1 r
    exact .inr ⟨_, by rw [show v = _ from rd], h w H _ .refl q rfl⟩
  · exact h.elim
def bAbs (ds : List D) (st : Store) : Res D := match ds with
  | [.int i] => .ok (.int (if i < 0 then -i else i)) st
  | _ => .stuck
theorem db_abs : DB G W k (.builtin "abs") bAbs := by
  refine ⟨_, fun X _ _ _ _ _ => call_abs, fun σ w H ds xs st Q r q h => ?_⟩
  unfold bAbs at h
  split at h
  · obtain ⟨v, rfl, rd⟩ := reps1 r
    exact ⟨_, by rw [show v = _ from rd], h w H _ .refl q rfl⟩
  · exact h.elim
end
end DL
end
section
set_option Elab.async false
set_option linter.all false
set_option maxRecDepth 100000
set_option maxHeartbeats 2000000
namespace DL
open PySem L2 PySem.Spec PyProof.Rows

/-! ### what is walked: a list, a tuple, a text, a range -/
def iAny (K : PySem.W.Frag) (tl : TE) : TI := fun σ H R => tl σ H fun x H1 =>
  (∃ a, x = .ref a ∧ (∃ xs, SqL K H1 a xs) ∧ R (Itl K a) H1) ∨ (∃ a, x = .ref a ∧ (∃ xs, SqT K H1 a xs) ∧ R (Itt K a) H1) ∨ ∃ z, x = .str z ∧ R (Its z) H1
theorem pi_any {X : Cx} {tg l : Expr} {tl : TE} (hl : PE X l tl) : PI X tg l (iAny X.K tl) := by
  refine ⟨fun pins s σ H R I h => ?_⟩
  refine thn (hl.run pins s σ H _ I h) fun v s1 ⟨x, H1, I1, r1, q1⟩ => ?_
  rcases q1 with ⟨a, e, ⟨xs, hq⟩, q⟩ | ⟨a, e, ⟨xs, hq⟩, q⟩ | ⟨z, e, q⟩
  · subst e
    cases r1
    obtain ⟨its, rv, p, hz⟩ := I1.list hq
    refine wpAny_pyIter_list p.isList ?_
    refine ⟨s1.heap.objs.size, [s1.heap.objs.size], _, _, H1, rfl, I1.kept (t' := s1.toks) fun b o e => Heap.get?_push_of_some _ e, turn_list a _, ⟨_, Heap.get?_push_size _ rfl, rfl, rfl⟩, fun b hb => ?_, q⟩
    have e : b = s1.heap.objs.size := by simpa using hb
    subst e
    exact I1.fpOk (Nat.le_refl _) (I1.hok.fresh (Nat.le_refl _))
  · subst e
    cases r1
    obtain ⟨its, rv, p, hz⟩ := I1.tuple hq
    refine wpAny_pyIter_tuple (show s1.heap.IsTuple a its.toArray from p) ?_
    refine ⟨s1.heap.objs.size, [s1.heap.objs.size], _, _, H1, rfl, I1.kept (t' := s1.toks) fun b o e => Heap.get?_push_of_some _ e, turn_tuple a _, ⟨_, Heap.get?_push_size _ rfl, rfl, rfl⟩, fun b hb => ?_, q⟩
    have e : b = s1.heap.objs.size := by simpa using hb
    subst e
    exact I1.fpOk (Nat.le_refl _) (I1.hok.fresh (Nat.le_refl _))
  · subst e
    obtain ⟨t, rfl⟩ := r1
    cases ha : z.cps.all (· < 128)
    · exact wpAny_pyIter_wide ha (pi_one (tk := s1.toks) I1 _ (turn_str _ z t "str_iterator" (.inr rfl)) ⟨_, Heap.get?_push_size _ rfl, rfl, rfl⟩ q)
    · exact wpAny_pyIter_ascii ha (pi_one (tk := s1.toks) I1 _ (turn_str _ z t "str_ascii_iterator" (.inl rfl)) ⟨_, Heap.get?_push_size _ rfl, rfl, rfl⟩ q)
def srcOf (d : D) (st : Store) : Res Src := match d with
  | .tup ds => .ok (.fix ds) st
  | .ptp ds => .ok (.fix ds) st
  | .lst ds => .ok (.fix ds) st
  | .scr ds => .ok (.fix ds) st
  | .str z => .ok (.fix (z.cps.toList.map fun c => .str (oneSign c))) st
  | .box j => match st[j]? with
    | some (.lst _) => .ok (.live j) st
    | _ => .stuck
  | _ => .stuck
def mAny (m : ME) : MI := fun env st => (m env st).bind srcOf
section
variable {T : Tb} {w : Wd} {H : Hp}
theorem iter_l {a : Addr} {vs : List V} {ds : List D} (hs : ∀ w2 H', Step w H w2 H' → SqL T.K H' a vs) (r : Reps T w H ds vs) : IterOk T w H (.fix ds) (Itl T.K a) := by
  intro w2 H' st s q
  have h1 := hs w2 H' s
  refine ⟨fun i d hd => ?_, fun i hi => ⟨vs, h1, by rw [← r.len]; exact hi⟩⟩
  obtain ⟨v, hv, rv⟩ := reps_get r hd
  refine ⟨⟨vs, v, h1, hv⟩, fun x H2 y => ?_⟩
  obtain ⟨e, y⟩ := y
  subst e
  have := y vs h1
  rw [hv] at this
  cases this
  exact ⟨.refl, q, Rep.mono s _ _ rv⟩
theorem iter_t {a : Addr} {vs : List V} {ds : List D} (hs : ∀ w2 H', Step w H w2 H' → SqT T.K H' a vs) (r : Reps T w H ds vs) : IterOk T w H (.fix ds) (Itt T.K a) := by
  intro w2 H' st s q
  have h1 := hs w2 H' s
  refine ⟨fun i d hd => ?_, fun i hi => ⟨vs, h1, by rw [← r.len]; exact hi⟩⟩
  obtain ⟨v, hv, rv⟩ := reps_get r hd
  refine ⟨⟨vs, v, h1, hv⟩, fun x H2 y => ?_⟩
  obtain ⟨e, y⟩ := y
  subst e
  have := y vs h1
  rw [hv] at this
  cases this
  exact ⟨.refl, q, Rep.mono s _ _ rv⟩
theorem iter_s {z : Str} : IterOk T w H (.fix (z.cps.toList.map fun c => .str (oneSign c))) (Its z) := by
  intro w2 H' st s q
  refine ⟨fun i d hd => ?_, fun i hi => ?_⟩
  · rw [List.getElem?_map] at hd
    cases c : z.cps.toList[i]? with
    | none => rw [c] at hd; cases hd
    | some n =>
      rw [c] at hd
      cases hd
      have hi := (List.getElem?_eq_some_iff.mp c).1
      refine ⟨(by show i < z.cps.size; simpa using hi), fun x H2 y => ?_⟩
      obtain ⟨e, cc, hc, ex⟩ := y
      subst e
      rw [← Array.getElem?_toList] at hc
      rw [c] at hc
      cases hc
      exact ⟨.refl, q, ex⟩
  · show z.cps.size ≤ i
    simpa using hi
theorem iter_r {n : Nat} {lo : Int} : IterOk T w H (.fix ((List.range n).map fun (i : Nat) => .int (lo + (i : Int)))) (Itr lo n) := by
  intro w2 H' st s q
  refine ⟨fun i d hd => ?_, fun i hi => (by show n ≤ i; simpa using hi)⟩
  rw [List.getElem?_map] at hd
  cases c : (List.range n)[i]? with
  | none => rw [c] at hd; cases hd
  | some m =>
    rw [c] at hd
    cases hd
    obtain ⟨hi, e⟩ := List.getElem?_eq_some_iff.mp c
    rw [List.getElem_range] at e
    subst e
    refine ⟨(by show i < n; simpa using hi), fun x H2 y => ?_⟩
    obtain ⟨e, ex⟩ := y
    subst e
    exact ⟨.refl, q, ex⟩
theorem sim_any {W : L2.St → XK} {t : TE} {m : ME} (h1 : SimE T W t m) : SimI T W (iAny T.K t) (mAny m) := fun as H σ env st R e w h =>
  h1 as H σ env st _ e w (Post.imp h fun d st1 as1 H1 x _ s1 w1 r1 h1 => by
    unfold srcOf at h1
    split at h1
    · obtain ⟨a, vs, rfl, l, rr⟩ := r1
      exact .inr (.inl ⟨a, rfl, ⟨vs, l.sq⟩, h1 as1 H1 _ .refl w1 (iter_t (fun w2 H' s => (l.mono s).sq) rr)⟩)
    · obtain ⟨a, vs, rfl, l, rr⟩ := r1.tp
      exact .inr (.inl ⟨a, rfl, ⟨vs, l.sq⟩, h1 as1 H1 _ .refl w1 (iter_t (fun w2 H' s => (l.mono s).sq) rr)⟩)
    · obtain ⟨a, vs, rfl, l, rr⟩ := r1
      exact .inl ⟨a, rfl, ⟨vs, l.sq⟩, h1 as1 H1 _ .refl w1 (iter_l (fun w2 H' s => (l.mono s).sq) rr)⟩
    · obtain ⟨a, vs, rfl, l, rr⟩ := r1
      exact .inl ⟨a, rfl, ⟨vs, l.sq⟩, h1 as1 H1 _ .refl w1 (iter_l (fun w2 H' s => (l.kp s.kp).sq) rr)⟩
    · exact .inr (.inr ⟨_, r1, h1 as1 H1 _ .refl w1 iter_s⟩)
    · obtain ⟨a, rfl, ha⟩ := r1
      split at h1
      · rename_i ds hc
        obtain ⟨vs, e1, rr⟩ := w1.obs _ a _ ha hc
        refine .inl ⟨a, rfl, ⟨vs, .inl (.inl e1)⟩, h1 as1 H1 _ .refl w1 ?_⟩
        intro w2 H' st2 ds2 s q hds
        have ha2 := s.kp.mu _ a ha
        obtain ⟨vs2, e2, rr2⟩ := q.obs _ a _ ha2 hds
        have l2 : SqL T.K H' a vs2 := .inl (.inl e2)
        refine ⟨fun i d hd => ?_, fun i hi => ⟨vs2, l2, by rw [← rr2.len]; exact hi⟩⟩
        obtain ⟨v, hv, rv⟩ := reps_get rr2 hd
        refine ⟨⟨vs2, v, l2, hv⟩, fun x H2 y => ?_⟩
        obtain ⟨e3, y⟩ := y
        subst e3
        have := y vs2 l2
        rw [hv] at this
        cases this
        exact ⟨.refl, q, rv⟩
      · exact h1.elim
    · exact h1.elim)
end
section
variable {G : Gd} {c : Ct} {k : Nat} {W : L2.St → XK} {a b tg : Expr} {ma mb : ME} {pos : Pos}
theorem di_any (ha : DE G c k W a ma) : DI G c k W tg a (mAny ma) := by
  obtain ⟨t, h1, h2⟩ := ha
  refine ⟨iAny G.K t, fun X h => ?_, sim_any h2⟩
  rw [← h.K]
  exact pi_any (h1 X h)
def rng1 (d : List D) (st : Store) : Res Src := match d with
  | [.int n] => if -1000000 ≤ n ∧ n ≤ 1000000 then .ok (.fix ((List.range n.toNat).map fun (i : Nat) => .int (0 + (i : Int)))) st else .stuck
  | _ => .stuck
def rng2 (d : List D) (st : Store) : Res Src := match d with
  | [.int m, .int n] => if (-1000000 ≤ m ∧ m ≤ 1000000) ∧ -1000000 ≤ n ∧ n ≤ 1000000 then .ok (.fix ((List.range (n - m).toNat).map fun (i : Nat) => .int (m + (i : Int)))) st else .stuck
  | _ => .stuck
def mRng1 (m : MA) : MI := fun env st => (m env st).bind rng1
def mRng2 (m : MA) : MI := fun env st => (m env st).bind rng2
theorem di_rng1 {m : MA} {p : Pos} (hm : G.mg "range" = none) (hg : c.sc.names.lookup ("range" : Str) = some .globalImplicit) (ha : DA G c k W [a] m) (hs : ∀ env, starEach [a] env = [(false, eval a env)] := by intro _; rfl) : DI G c k W tg (.Call (.Name "range" p) [a] [] pos) (mRng1 m) := by
  obtain ⟨t, h1, h2⟩ := ha
  refine ⟨iRng1 t, fun X h => pi_range1 (h.gl hg) (by rw [h.mg]; exact hm) (h1 X h) (hs _), fun as H σ env st R e w h => ?_⟩
  refine h2 as H σ env st _ e w (Post.imp h fun ds st1 as1 H1 xs _ s1 w1 r1 h1 => ?_)
  unfold rng1 at h1
  split at h1
  · obtain ⟨v, rfl, rd⟩ := reps1 r1
    split at h1
    · rename_i hn
      exact ⟨_, by rw [show v = .int _ from rd], by omega, by omega, h1 as1 H1 _ .refl w1 iter_r⟩
    · exact h1.elim
  · exact h1.elim
theorem di_rng2 {m : MA} {p : Pos} (hm : G.mg "range" = none) (hg : c.sc.names.lookup ("range" : Str) = some .globalImplicit) (ha : DA G c k W [a, b] m) (hs : ∀ env, starEach [a, b] env = [(false, eval a env), (false, eval b env)] := by intro _; rfl)
    (hs2 : ∀ env, starEach [b] env = [(false, eval b env)] := by intro _; rfl) : DI G c k W tg (.Call (.Name "range" p) [a, b] [] pos) (mRng2 m) := by
  obtain ⟨t, h1, h2⟩ := ha
  refine ⟨iRng2 t, fun X h => pi_range2 (h.gl hg) (by rw [h.mg]; exact hm) (h1 X h) (hs _) (hs2 _), fun as H σ env st R e w h => ?_⟩
  refine h2 as H σ env st _ e w (Post.imp h fun ds st1 as1 H1 xs _ s1 w1 r1 h1 => ?_)
  unfold rng2 at h1
  split at h1
  · obtain ⟨v, u, rfl, rd, ru⟩ := reps2 r1
    split at h1
    · rename_i hn
      exact ⟨_, _, by rw [show v = .int _ from rd, show u = .int _ from ru], ⟨by omega, by omega, by omega, by omega⟩, h1 as1 H1 _ .refl w1 iter_r⟩
    · exact h1.elim
  · exact h1.elim

/-! ### a list is changed -/
/-- a method of a list: it is one ahead of the arguments -/
def mMethL (f : D → List D → Store → Res D) (m : ME) (a : MA) : ME := fun env st => (m env st).bind fun d st1 => match vl st1 d with
  | some _ => (a env st1).bind fun ds st2 => f d ds st2
  | none => .stuck
def dAppend (d : D) (vs : List D) (st : Store) : Res D := match d, vs with
  | .box i, [x] => match st[i]? with
    | some (.lst ds) => if ds.length < lim ∧ x.low i = true then .ok .non (st.set i (.lst (ds ++ [x]))) else .stuck
    | _ => .stuck
  | _, _ => .stuck
theorem lows_app {n : Nat} : ∀ {xs ys : List D}, D.lows n xs = true → D.lows n ys = true → D.lows n (xs ++ ys) = true
  | [], ys, _, h => h
  | x :: xs, ys, h, k => by
    have h' : (D.low n x && D.lows n xs) = true := h
    rw [Bool.and_eq_true] at h'
    show (D.low n x && D.lows n (xs ++ ys)) = true
    rw [Bool.and_eq_true]
    exact ⟨h'.1, lows_app h'.2 k⟩
/-- by values: a method of a list -/
def SimM (T : Tb) (E : XK) (r : V → List V → Hp → VK → Prop) (f : D → List D → Store → Res D) : Prop := ∀ w H d ds x xs st Q, Rep T w H d x → Reps T w H ds xs → WH T w H st → Post T (Rep T) w H (f d ds st) Q E → r x xs H Q
theorem sim_methL {T : Tb} {W : L2.St → XK} {r : V → List V → Hp → VK → Prop} {f : D → List D → Store → Res D} {t : TE} {u : TA} {m : ME} {a : MA} (hr : ∀ σ, SimM T (W σ) r f) (h1 : SimE T W t m) (h2 : SimA T W u a) :
    SimE T W (tBM T.K "list" r t u) (mMethL f m a) := fun as H σ env st Q e w h =>
  h1 as H σ env st _ e w (Post.imp h fun d st1 as1 H1 x _ s1 w1 r1 h1 => by
    cases c : vl st1 d with
    | none => rw [c] at h1; exact h1.elim
    | some zs =>
      rw [c] at h1
      obtain ⟨p, vs, rfl, rr, hp⟩ := vl_rep w1 r1 c
      refine ⟨.inl ⟨rfl, vs, .inl (.inl hp)⟩, ?_⟩
      exact h2 as1 H1 σ env st1 _ (e.mono s1) w1 (Post.imp h1 fun ds st2 as2 H2 xs _ s2 w2 r2 h2 => hr σ as2 H2 d ds _ xs st2 Q (Rep.mono s2 _ _ r1) r2 w2 h2))
theorem sm_append {T : Tb} {E : XK} : SimM T E rAppend dAppend := fun w H d ds x xs st Q r1 r2 q h => by
  unfold dAppend at h
  split at h
  · obtain ⟨a, rfl, ha⟩ := r1
    obtain ⟨v, rfl, rv⟩ := reps1 r2
    split at h
    · rename_i zs hz
      split at h
      · rename_i hc
        obtain ⟨vs, e1, rr⟩ := q.obs _ a _ ha hz
        have hm : a ∈ w.as := List.mem_iff_getElem?.mpr ⟨_, ha⟩
        have lz := q.ord _ _ hz
        refine ⟨a, vs, v, rfl, rfl, e1, by have := lim_lt; rw [← rr.len]; omega, ?_⟩
        refine h w _ _ (.put hm) (q.put ha ⟨vs ++ [v], upd_same, Reps.mono (.put hm) _ _ (reps_snoc rv rr)⟩ ?_) rfl
        exact lows_app lz (by show (D.low _ _ && true) = true; rw [hc.2]; rfl)
      · exact h.elim
    · exact h.elim
  · exact h.elim
theorem de_append {o e : Expr} {es : List Expr} {mo : ME} {m : MA} {apos cpos : Pos} (ho : DE G c k W o mo) (ha : DA G c k W (e :: es) m)
    (hbase : ∀ env, attributeBase o "append" env (eval o env) = eval o env := by intro _; rfl)
    (hfew : ∀ env, ((backTo cpos (starEach (e :: es) env)).all (fun x => !x.1) && (backToKw cpos (keywordEach [] env)).all (fun x => x.1.isSome)
      && decide ((e :: es).length + ([] : List Keyword).length + (if ([] : List Keyword).isEmpty then 0 else 1) < 30)) = true := by intro _; rfl)
    (hline : (apos.endLine == cpos.line) = true := by rfl) (hs : ∀ env, starEach (e :: es) env = (false, eval e env) :: starEach es env := by intro _; rfl) (hplain : ∀ env, (backTo cpos (starEach es env)).any (·.1) = false := by intro _; rfl) :
    DE G c k W (.Call (.Attribute o "append" apos) (e :: es) [] cpos) (mMethL dAppend mo m) := by
  obtain ⟨t, h1, h2⟩ := ho
  obtain ⟨u, h3, h4⟩ := ha
  refine ⟨tBM G.K "list" rAppend t u, fun X h => ?_, sim_methL (fun _ => sm_append) h2 h4⟩
  rw [← h.K]
  exact pe_bm PySem.F.plainAttrs_list PySem.F.slot_list_append PySem.F.type_list_append mt_append (h1 X h) (h3 X h) (hbase _) (hfew _) hline (hs _) (hplain _)
/-- xs[i] = v -/
def dSetIx (d e v : D) (st : Store) : Option Store := match d, e with
  | .box j, .int i => match st[j]? with
    | some (.lst ds) => match ixN ds.length i with
      | some n => if v.low j = true then some (st.set j (.lst (ds.set n v))) else none
      | none => none
    | _ => none
  | _, _ => none
def msSetIx (mv mo mi : ME) : MS := fun env st => (mv env st).to env fun v st1 => (mo env st1).to env fun d st2 => (mi env st2).to env fun e st3 => match dSetIx d e v st3 with
  | some st4 => .fl (.nx env) st4
  | none => .stuck
theorem lows_set {n : Nat} {v : D} (hv : v.low n = true) : ∀ {xs : List D} {i : Nat}, D.lows n xs = true → D.lows n (xs.set i v) = true
  | [], i, h => h
  | x :: xs, 0, h => by
    have h' : (D.low n x && D.lows n xs) = true := h
    rw [Bool.and_eq_true] at h'
    show (D.low n v && D.lows n xs) = true
    rw [Bool.and_eq_true]
    exact ⟨hv, h'.2⟩
  | x :: xs, i + 1, h => by
    have h' : (D.low n x && D.lows n xs) = true := h
    rw [Bool.and_eq_true] at h'
    show (D.low n x && D.lows n (xs.set i v)) = true
    rw [Bool.and_eq_true]
    exact ⟨h'.1, lows_set hv h'.2⟩
theorem reps_set {T : Tb} {w : Wd} {H : Hp} {d : D} {v : V} (rv : Rep T w H d v) : ∀ {xs : List D} {us : List V} {i : Nat}, Reps T w H xs us → Reps T w H (xs.set i d) (us.set i v)
  | [], us, i, h => by rw [show us = [] from h]; rfl
  | x :: xs, us, 0, h => by
    obtain ⟨u, q, rfl, r1, r2⟩ := h
    exact ⟨v, q, rfl, rv, r2⟩
  | x :: xs, us, i + 1, h => by
    obtain ⟨u, q, rfl, r1, r2⟩ := h
    exact ⟨u, q.set i v, rfl, r1, reps_set rv r2⟩
theorem ds_setIx {o i e : Expr} {mo mi mv : ME} {spos : Pos} (hv : DE G c k W e mv) (ho : DE G c k W o mo) (hi : DE G c k W i mi)
    (ha : ∀ env v, assign (.Subscript o i pos) env v = (do
      let ov ← holding [v] (eval o env)
      let iv ← holding [v, ov] (eval i env)
      standAt pos
      holding [v, ov, iv] (setItem ov iv v)
      release [v, ov, iv] []) := by intro _ _; rfl)
    (hs : ∀ env, swapsWithSole [.Subscript o i pos] e spos.line env = pure false := by intro _; rfl) (hw : ∀ env, swappedStores [.Subscript o i pos] e env = pure none := by intro _; rfl) :
    DS G c k W (.Assign [.Subscript o i pos] e spos) (msSetIx mv mo mi) := by
  obtain ⟨t, h1, h2⟩ := hv
  obtain ⟨u, h3, h4⟩ := ho
  obtain ⟨v, h5, h6⟩ := hi
  refine ⟨tAsg t (gSub u v rSetL), fun X h => ps_asg (h1 X h) (pg_sub (h3 X h) (h5 X h) set_list (ha _)) (hs _) (hw _) rfl, fun as H σ env st D e w h => ?_⟩
  refine h2 as H σ env st _ e w (PostS.imp e h fun dv st1 w1 H1 xv _ s1 q1 r1 h1 => ?_)
  refine h4 w1 H1 σ env st1 _ (e.mono s1) q1 (PostS.imp (e.mono s1) h1 fun d st2 w2 H2 xo _ s2 q2 r2 h2 => ?_)
  refine h6 w2 H2 σ env st2 _ (e.mono (s1.trans s2)) q2 (PostS.imp (e.mono (s1.trans s2)) h2 fun de st3 w3 H3 xi _ s3 q3 r3 h3 => ?_)
  have rv := Rep.mono (s2.trans s3) _ _ r1
  have rd := Rep.mono s3 _ _ r2
  cases cc : dSetIx d de dv st3 with
  | none => rw [cc] at h3; exact h3.elim
  | some st4 =>
    rw [cc] at h3
    unfold dSetIx at cc
    split at cc
    · obtain ⟨a, rfl, ha2⟩ := rd
      split at cc
      · rename_i zs hz
        split at cc
        · rename_i n hn
          split at cc
          · rename_i hlo
            cases cc
            obtain ⟨vs, e1, rr⟩ := q3.obs _ a _ ha2 hz
            have hm : a ∈ w3.as := List.mem_iff_getElem?.mpr ⟨_, ha2⟩
            have lz := q3.ord _ _ hz
            refine ⟨a, vs, _, n, rfl, r3, e1, by rw [← rr.len]; exact hn, ?_⟩
            exact h3 w3 _ σ (.put hm) (q3.put ha2 ⟨vs.set n xv, upd_same, Reps.mono (.put hm) _ _ (reps_set rv rr)⟩ (lows_set hlo lz)) ((e.mono ((s1.trans s2).trans s3)).mono (.put hm))
          · cases cc
        · cases cc
      · cases cc
    · cases cc
end
end DL
end
section
set_option Elab.async false
set_option linter.all false
set_option maxRecDepth 100000
set_option maxHeartbeats 2000000
namespace DL
open PySem L2

/-! ### own classes -/
def tyNames : List String := ["NoneType", "bool", "int", "str", "tuple", "list", "dict"]
structure Kf (G : Gd) (n : Nat) (J : Nat → Nat → Bool) : Prop where
  cl : ∀ c, c < n → Cls G.K (G.C c)
  ha : ∀ c, c < n → PySem.W.findIn G.K (.ref (G.C c)) "__class__" = some (some (.builtin "object.__class__"))
  hn : PySem.W.specialIn G.K (.builtin "object.__class__") "__get__" = some (some (.builtin "getset_descriptor.__get__"))
  htk : PySem.W.takesIn G.K (.builtin "object.__class__") = some true
  hm : ∀ c, c < n → PySem.W.mroIn G.K (G.C c) (.type "object") = some true
  jj : ∀ a b, a < n → b < n → PySem.W.kitOne G.K (.ref (G.C a)) (.ref (G.C b)) = some (J a b)
  jb : ∀ b, b < n → ∀ t ∈ tyNames, PySem.W.kitOne G.K (.type t) (.ref (G.C b)) = some false
  bj : ∀ a, a < n → ∀ t ∈ tyNames, PySem.W.kitOne G.K (.ref (G.C a)) (.type t) = some false
/-- a thing's type: built in, or an own class -/
def tyD (st : Store) : D → Option (String ⊕ Nat)
  | .non => some (.inl "NoneType")
  | .bl _ => some (.inl "bool")
  | .int _ => some (.inl "int")
  | .str _ => some (.inl "str")
  | .tup _ => some (.inl "tuple")
  | .ptp _ => some (.inl "tuple")
  | .lst _ => some (.inl "list")
  | .dic _ => none
  | .scr _ => some (.inl "list")
  | .obj c _ => some (.inr c)
  | .box i => match st[i]? with
    | some (.lst _) => some (.inl "list")
    | some (.dic _) => some (.inl "dict")
    | some (.ins c _) => some (.inr c)
    | none => none
  | _ => none
def kitD (n : Nat) (J : Nat → Nat → Bool) : String ⊕ Nat → D → Option Bool
  | .inl a, .ty b => kitB a b
  | .inl a, .cls c => if a ∈ tyNames ∧ c < n then some false else none
  | .inr a, .ty b => if a < n ∧ b ∈ tyNames then some false else none
  | .inr a, .cls c => if a < n ∧ c < n then some (J a c) else none
  | _, _ => none
def kitsD (n : Nat) (J : Nat → Nat → Bool) (t : String ⊕ Nat) : List D → Option Bool
  | [] => some false
  | c :: r => match kitD n J t c with
    | some true => some true
    | some false => kitsD n J t r
    | none => none
section
variable {G : Gd} {n : Nat} {J : Nat → Nat → Bool}
def tyVal (G : Gd) : String ⊕ Nat → Value
  | .inl a => .type a
  | .inr c => .ref (G.C c)
theorem tyX_of (F : Kf G n J) {w : Wd} {H : Hp} {st : Store} {d : D} {v : V} {t : String ⊕ Nat} (q : WH G.T w H st) (r : Rep G.T w H d v) (h : tyD st d = some t) (hc : ∀ a, t = .inr a → a < n) : TyX G.K H v (tyVal G t) := by
  have ins : ∀ c a dx ws, H a = some (.ins (G.C c) dx ws) → c < n → TyX G.K H (.ref a) (.ref (G.C c)) := fun c a dx ws e hl => .base (.ins e (F.cl c hl) (F.ha c hl) F.hn F.htk (F.hm c hl))
  cases d with
  | non => cases h; rw [show v = _ from r]; exact .base .non
  | bl b => cases h; rw [show v = _ from r]; exact .base (.bl b)
  | int b => cases h; rw [show v = _ from r]; exact .base (.int b)
  | str b => cases h; rw [show v = _ from r]; exact .base (.str b)
  | tup xs =>
    cases h
    obtain ⟨a, vs, rfl, l, _⟩ := r
    rcases l with ⟨_, l | ⟨o, l⟩⟩ | ⟨o, its, m, l, l2, _⟩
    · exact .base (.tup l)
    · exact .fTuple l
    · exact .kTuple l l2
  | ptp xs =>
    cases h
    obtain ⟨a, vs, rfl, l, _⟩ := r
    rcases l with ⟨_, o, l, _⟩ | ⟨o, its, m, l, l2, _⟩
    · exact .fTuple l
    · exact .kTuple l l2
  | lst xs =>
    cases h
    obtain ⟨a, vs, rfl, l, _⟩ := r
    exact .base (.lst l.2)
  | scr xs =>
    cases h
    obtain ⟨a, vs, rfl, l, _⟩ := r
    rcases l with ⟨_, l | ⟨o, l⟩⟩ | ⟨o, its, m, l, l2, _⟩
    · exact .base (.lst l)
    · exact .base (.frz l)
    · exact .kList l l2
  | obj c fs =>
    cases h
    obtain ⟨a, dx, ws, rfl, _, e, _⟩ := r
    exact ins c a dx ws e (hc c rfl)
  | box i =>
    obtain ⟨a, rfl, ha⟩ := r
    unfold tyD at h
    dsimp only at h
    cases e : st[i]? with
    | none => rw [e] at h; cases h
    | some mo =>
      have m := q.obs i a mo ha e
      rw [e] at h
      cases mo with
      | lst ds =>
        cases h
        obtain ⟨vs, e1, _⟩ := m
        exact .base (.lst e1)
      | dic kvs =>
        cases h
        obtain ⟨vs, e1, _⟩ := m
        exact .base (.dK e1)
      | ins c fs =>
        cases h
        obtain ⟨dx, vs, e1, _⟩ := m
        exact ins c a dx vs e1 (hc c rfl)
  | _ => cases h
def clsVal (G : Gd) : D → Option Value
  | .ty a => some (.type a)
  | .cls c => some (.ref (G.C c))
  | _ => none
theorem kit_val (F : Kf G n J) {t : String ⊕ Nat} {c : D} {b : Bool} (h : kitD n J t c = some b) : ∃ u, clsVal G c = some u ∧ PySem.W.kitOne G.K (tyVal G t) u = some b := by
  unfold kitD at h
  split at h
  · exact ⟨_, rfl, kit_ty h⟩
  · split at h
    · rename_i hh; cases h; exact ⟨_, rfl, F.jb _ hh.2 _ hh.1⟩
    · cases h
  · split at h
    · rename_i hh; cases h; exact ⟨_, rfl, F.bj _ hh.1 _ hh.2⟩
    · cases h
  · split at h
    · rename_i hh; cases h; exact ⟨_, rfl, F.jj _ _ hh.1 hh.2⟩
    · cases h
  · cases h
theorem cls_v {w : Wd} {H : Hp} {c : D} {v : V} {u : Value} (r : Rep G.T w H c v) (h : clsVal G c = some u) : ClsV v u := by
  cases c with
  | ty a => cases h; rw [show v = .ty a from r]; exact .ty a
  | cls a => cases h; rw [show v = .ref (G.C a) from r]; exact .own _
  | _ => cases h
theorem kits_val (F : Kf G n J) {t : String ⊕ Nat} : ∀ {cs : List D} {b : Bool} {w : Wd} {H : Hp} {vs : List V}, kitsD n J t cs = some b → Reps G.T w H cs vs → (∀ c ∈ cs, (clsVal G c).isSome = true) → ∃ us, Paired ClsV vs us ∧ PySem.W.kitAny G.K (tyVal G t) us = some b
  | [], b, w, H, vs, h, r, _ => by
    cases h
    rw [show vs = [] from r]
    exact ⟨[], .nil, rfl⟩
  | c :: cs, b, w, H, vs, h, r, ha => by
    obtain ⟨v, q, rfl, r1, r2⟩ := r
    unfold kitsD at h
    cases e : kitD n J t c with
    | none => rw [e] at h; cases h
    | some k =>
      rw [e] at h
      obtain ⟨u, hu, hk⟩ := kit_val F e
      cases k with
      | true =>
        cases h
        -- the rest only has to be classes
        have rest : ∀ (cs : List D) (q : List V), Reps G.T w H cs q → (∀ c ∈ cs, (clsVal G c).isSome = true) → ∃ us, Paired ClsV q us := by
          intro cs
          induction cs with
          | nil => intro q r _; rw [show q = [] from r]; exact ⟨[], .nil⟩
          | cons d ds ih =>
            intro q r ha
            obtain ⟨x, q', rfl, r3, r4⟩ := r
            obtain ⟨us, hu⟩ := ih q' r4 fun c hc => ha c (List.mem_cons_of_mem _ hc)
            have := ha d List.mem_cons_self
            cases e2 : clsVal G d with
            | none => rw [e2] at this; cases this
            | some y => exact ⟨y :: us, .cons (cls_v r3 e2) hu⟩
        obtain ⟨us, hus⟩ := rest cs q r2 fun c hc => ha c (List.mem_cons_of_mem _ hc)
        exact ⟨u :: us, .cons (cls_v r1 hu) hus, kitAny_cons hk (fun z => by cases z) fun _ => rfl⟩
      | false =>
        obtain ⟨us, h1, h2⟩ := kits_val F h r2 fun c hc => ha c (List.mem_cons_of_mem _ hc)
        exact ⟨u :: us, .cons (cls_v r1 hu) h1, kitAny_cons hk (fun _ => h2) fun z => by cases z⟩
end
def D.isCls : D → Bool
  | .ty _ => true
  | .cls _ => true
  | _ => false
/-- isinstance, of one class, of several -/
def tyOk (n : Nat) (t : String ⊕ Nat) : Bool := match t with
  | .inr a => decide (a < n)
  | .inl _ => true
def isi1 (n : Nat) (J : Nat → Nat → Bool) (d c : D) (st : Store) : Res D := match tyD st d with
  | some t => if tyOk n t = true then (match kitD n J t c with
    | some b => .ok (.bl b) st
    | none => .stuck) else .stuck
  | none => .stuck
def isiT (n : Nat) (J : Nat → Nat → Bool) (d : D) (cs : List D) (st : Store) : Res D := match tyD st d with
  | some t => if tyOk n t = true ∧ cs.all D.isCls = true ∧ cs.length ≤ 5000 then (match kitsD n J t cs with
    | some b => .ok (.bl b) st
    | none => .stuck) else .stuck
  | none => .stuck
def mIsi1 (n : Nat) (J : Nat → Nat → Bool) (a b : ME) : ME := mOp (isi1 n J) a b
def mIsiT (n : Nat) (J : Nat → Nat → Bool) (a : ME) (cs : MA) : ME := fun env st => (a env st).bind fun d st1 => (cs env st1).bind fun ds st2 => isiT n J d ds st2
section
variable {G : Gd} {n : Nat} {J : Nat → Nat → Bool} {c : Ct} {k : Nat} {W : L2.St → XK} {a b : Expr} {ma mb : ME} {p pos p2 : Pos} {es : List Expr} {ms : MA}
theorem isCls_val {d : D} (h : d.isCls = true) : (clsVal G d).isSome = true := by
  cases d <;> first | rfl | cases h
theorem tyOk_lt {t : String ⊕ Nat} (h : tyOk n t = true) : ∀ a, t = .inr a → a < n := fun a e => by
  subst e
  exact of_decide_eq_true h
theorem de_isi1 (F : Kf G n J) (hm : G.mg "isinstance" = none) (hg : c.sc.names.lookup ("isinstance" : Str) = some .globalImplicit) (ha : DE G c k W a ma) (hb : DE G c k W b mb)
    (he : ∀ env, starEach [a, b] env = (false, eval a env) :: starEach [b] env := by intro _; rfl) (he2 : ∀ env, starEach [b] env = (false, eval b env) :: starEach [] env := by intro _; rfl) (hpl : ∀ env, (backTo pos (starEach [b] env)).any (·.1) = false := by intro _; rfl) :
    DE G c k W (.Call (.Name "isinstance" p) [a, b] [] pos) (mIsi1 n J ma mb) := by
  obtain ⟨t, h1, h2⟩ := ha
  obtain ⟨u, h3, h4⟩ := hb
  refine ⟨tCB (rIsi G.K) (tCons t (tCons u tNil)), fun X h => ?_, fun as H σ env st Q e w h => ?_⟩
  · rw [← h.K]
    exact pe_callB call_isi (h.gl hg) (by rw [h.mg]; exact hm) (by decide +kernel) (pa_cons (h1 X h) (pa_cons (h3 X h) pa_nil (he2 _)) (he _)) (by decide) (by decide) (he _) (hpl _)
  · refine h2 as H σ env st _ e w (Post.imp h fun d st1 as1 H1 x _ s1 w1 r1 h1 => ?_)
    refine h4 as1 H1 σ env st1 _ (e.mono s1) w1 (Post.imp h1 fun cd st2 as2 H2 y _ s2 w2 r2 h2 => ?_)
    unfold isi1 at h2
    split at h2
    · rename_i t ht
      split at h2
      · rename_i ho
        split at h2
        · rename_i b hb
          obtain ⟨u, hu, hk⟩ := kit_val F hb
          exact ⟨x, y, tyVal G t, u, b, rfl, cls_v r2 hu, tyX_of F w2 (Rep.mono s2 _ _ r1) ht (tyOk_lt ho), hk, h2 as2 H2 _ .refl w2 rfl⟩
        · exact h2.elim
      · exact h2.elim
    · exact h2.elim
theorem de_isiT (F : Kf G n J) {x1} (hm : G.mg "isinstance" = none) (hg : c.sc.names.lookup ("isinstance" : Str) = some .globalImplicit) (ha : DE G c k W a ma) (hb : DA G c k W es ms)
    (he : ∀ env, starEach [a, .Tuple es x1 p2] env = (false, eval a env) :: starEach [.Tuple es x1 p2] env := by intro _; rfl) (hpl : ∀ env, (backTo pos (starEach [.Tuple es x1 p2] env)).any (·.1) = false := by intro _; rfl) :
    DE G c k W (.Call (.Name "isinstance" p) [a, .Tuple es x1 p2] [] pos) (mIsiT n J ma ms) := by
  obtain ⟨t, h1, h2⟩ := ha
  obtain ⟨u, h3, h4⟩ := hb
  refine ⟨tCB (rIsiT G.K) (tCons t (tCons (tTup u) tNil)), fun X h => ?_, fun as H σ env st Q e w h => ?_⟩
  · rw [← h.K]
    exact pe_callB call_isiT (h.gl hg) (by rw [h.mg]; exact hm) (by decide +kernel) (pa_cons (h1 X h) (pa_cons (pe_tup (h3 X h)) pa_nil) (he _)) (by decide) (by decide) (he _) (hpl _)
  · refine h2 as H σ env st _ e w (Post.imp h fun d st1 as1 H1 x _ s1 w1 r1 h1 => ?_)
    refine h4 as1 H1 σ env st1 _ (e.mono s1) w1 (Post.imp h1 fun cs st2 as2 H2 ys _ s2 w2 r2 h2 => ?_)
    unfold isiT at h2
    split at h2
    · rename_i t ht
      split at h2
      · rename_i ho
        split at h2
        · rename_i b hb
          obtain ⟨us, hu, hk⟩ := kits_val F hb r2 fun c hc => isCls_val (List.all_eq_true.mp ho.2.1 c hc)
          have hl : ys.length ≤ sizeLine := by
            have l1 := ho.2.2
            have := lim_le
            rw [← r2.len]
            unfold lim at this
            omega
          exact ⟨hl, fun q hq => ⟨x, q, ys, tyVal G t, us, b, rfl, upd_same, hu, tyX_of F (w2.node hq) (Rep.mono (s2.trans (.node hq)) _ _ r1) ht (tyOk_lt ho.1), hk, h2 as2 _ _ (.node hq) (w2.node hq) rfl⟩⟩
        · exact h2.elim
      · exact h2.elim
    · exact h2.elim
/-- a built-in type, an own class by its name -/
theorem de_tyName {x : Str} {id : String} (hm : G.mg x = none) (hg : c.sc.names.lookup x = some .globalImplicit) (hv : bootBuiltins x = some (.type id)) (hn : x ≠ "__name__" := by decide) (hdb : (x == ("__debug__" : Str)) = false := by decide) :
    DE G c k W (.Name x pos) (mC (.ty id)) := ⟨_, fun X h => pe_bltn (v := .ty id) (h.gl hg) (by rw [h.mg]; exact hm) hv rfl hn hdb, sim_c fun _ _ => rfl⟩
theorem de_clsName {x : Str} {j : Nat} (hm : G.mg x = some (.ref (G.C j))) (hg : c.sc.names.lookup x = some .globalImplicit) (hdb : (x == ("__debug__" : Str)) = false := by decide) :
    DE G c k W (.Name x pos) (mC (.cls j)) := ⟨_, fun X h => pe_glob (v := .ref (G.C j)) (h.gl hg) (by rw [h.mg]; exact hm) rfl hdb, sim_c fun _ _ => rfl⟩
/-- a < b < c -/
def mChain (f g : D → D → Store → Res D) (a b d : ME) : ME := fun env st => (a env st).bind fun x st1 => (b env st1).bind fun y st2 => (f x y st2).bind fun r st3 => match r with
  | .bl true => (d env st3).bind fun z st4 => g y z st4
  | .bl false => .ok (.bl false) st3
  | _ => .stuck
end
end DL
end
section
set_option Elab.async false
set_option linter.all false
set_option maxRecDepth 100000
set_option maxHeartbeats 2000000
namespace DL
open PySem L2
section
variable {G : Gd} {c : Ct} {k : Nat} {W : L2.St → XK} {a b e : Expr} {ma mb me : ME} {pos : Pos}
theorem sim_chain {T : Tb} {r r' : R2} {f g : D → D → Store → Res D} {ta tb tc : TE} {mc : ME} (hr : ∀ σ, SimR T (W σ) r f) (hr' : ∀ σ, SimR T (W σ) r' g) (h1 : SimE T W ta ma) (h2 : SimE T W tb mb) (h3 : SimE T W tc mc) : SimE T W (tChain r r' ta tb tc) (mChain f g ma mb mc) := fun as H σ env st Q e w h =>
  h1 as H σ env st _ e w (Post.imp h fun d st1 as1 H1 x _ s1 w1 r1 h1 =>
    h2 as1 H1 σ env st1 _ (e.mono s1) w1 (Post.imp h1 fun d2 st2 as2 H2 y _ s2 w2 r2 h2 =>
      hr σ as2 H2 d d2 x y st2 _ (Rep.mono s2 _ _ r1) r2 w2 (Post.imp h2 fun dr st3 as3 H3 z _ s3 w3 r3 h4 => by
        cases dr with
        | bl kk =>
          refine ⟨kk, r3, ?_⟩
          cases kk with
          | true => exact h3 as3 H3 σ env st3 _ (e.mono ((s1.trans s2).trans s3)) w3 (Post.imp h4 fun d4 st4 as4 H4 z4 _ s4 w4 r4 h5 => hr' σ as4 H4 d2 d4 y z4 st4 Q (Rep.mono (s3.trans s4) _ _ r2) r4 w4 h5)
          | false => exact h4 as3 H3 _ .refl w3 rfl
        | _ => exact h4.elim)))
theorem de_chain {op op' : CmpOp} {f g : D → D → Store → Res D} (ho : DOp G W (compareOp op) k f) (ho' : DOp G W (compareOp op') k g) (ha : DE G c k W a ma) (hb : DE G c k W b mb) (hc : DE G c k W e me)
    (hm : lastMarks [op, op'] [b, e] = false := by with_unfolding_all rfl) : DE G c k W (.Compare a [op, op'] [b, e] pos) (mChain f g ma mb me) := by
  obtain ⟨r, h1, h2⟩ := ho
  obtain ⟨r', h1', h2'⟩ := ho'
  obtain ⟨t, h3, h4⟩ := ha
  obtain ⟨u, h5, h6⟩ := hb
  obtain ⟨v, h7, h8⟩ := hc
  exact ⟨_, fun X h => pe_chain (h.op h1) (h.op h1') (h3 X h) (h5 X h) (h7 X h) hm, sim_chain h2 h2' h4 h6 h8⟩
theorem dt_chain {op op' : CmpOp} {f g : D → D → Store → Res D} (ho : DOp G W (compareOp op) k f) (ho' : DOp G W (compareOp op') k g) (ha : DE G c k W a ma) (hb : DE G c k W b mb) (hc : DE G c k W e me)
    (hm : lastMarks [op, op'] [b, e] = false := by with_unfolding_all rfl) : DT G c k W (.Compare a [op, op'] [b, e] pos) (mTest (mChain f g ma mb me)) := by
  obtain ⟨r, h1, h2⟩ := ho
  obtain ⟨r', h1', h2'⟩ := ho'
  obtain ⟨t, h3, h4⟩ := ha
  obtain ⟨u, h5, h6⟩ := hb
  obtain ⟨v, h7, h8⟩ := hc
  exact ⟨_, fun X h => pt_chain (h.op h1) (h.op h1') (h3 X h) (h5 X h) (h7 X h) hm, sim_testT (sim_chain h2 h2' h4 h6 h8)⟩

/-! ### a text's join -/
def dJoin (d e : D) (st : Store) : Res D := match d with
  | .str a => match vw st e with
    | some (_, ds) => match D.strs ds with
      | some ys => if (ys.map (·.length)).sum + ys.length * a.length ≤ lim then .ok (.str (Txt.join a ys)) st else .stuck
      | none => .stuck
    | none => .stuck
  | _ => .stuck
/-- a method of a text: it is one ahead of the argument -/
def mMethS (f : D → D → Store → Res D) (m a : ME) : ME := fun env st => (m env st).bind fun d st1 => match d with
  | .str _ => (a env st1).bind fun x st2 => f d x st2
  | _ => .stuck
theorem de_join {o : Expr} {mo : ME} {apos : Pos} (ho : DE G c k W o mo) (he : DE G c k W e me) (hs : ∀ env, starEach [e] env = [(false, eval e env)] := by intro _; rfl) (hbase : ∀ env, attributeBase o "join" env (eval o env) = eval o env := by intro _; rfl)
    (hline : (apos.endLine == pos.line) = true := by rfl) : DE G c k W (.Call (.Attribute o "join" apos) [e] [] pos) (mMethS dJoin mo me) := by
  obtain ⟨t, h1, h2⟩ := ho
  obtain ⟨u, h3, h4⟩ := he
  refine ⟨tM1 (fun x xs H Q => ∃ a p, ∃ ys : List Str, x = .str a ∧ xs = [.ref p] ∧ (SqL G.K H p (ys.map V.str) ∨ SqT G.K H p (ys.map V.str)) ∧
    (ys.map (·.length)).sum + ys.length * a.length ≤ 16777216 ∧ Q (.str (Txt.join a ys)) H) t u, fun X h => ?_, fun as H σ env st Q e w h => ?_⟩
  · rw [← h.K]
    exact pe_m1 PySem.F.slot_str_join PySem.F.type_str_join mt_join (h1 X h) (h3 X h) (hs _) (hbase _) hline
  · refine h2 as H σ env st _ e w (Post.imp h fun d st1 as1 H1 x _ s1 w1 r1 h1 => ?_)
    cases d with
    | str a =>
      refine ⟨⟨a, r1⟩, ?_⟩
      refine h4 as1 H1 σ env st1 _ (e.mono s1) w1 (Post.imp h1 fun d2 st2 as2 H2 y _ s2 w2 r2 h2 => ?_)
      unfold dJoin at h2
      dsimp only at h2
      split at h2
      · rename_i bb ds hv
        obtain ⟨p, vs, rfl, rr, l⟩ := vw_or w2 r2 hv
        split at h2
        · rename_i ys hy
          split at h2
          · rename_i hl
            have ev := reps_strs rr hy
            subst ev
            exact ⟨a, p, ys, r1, rfl, l, by unfold lim at hl; omega, h2 as2 H2 _ .refl w2 rfl⟩
          · exact h2.elim
        · exact h2.elim
      · exact h2.elim
    | _ => exact h1.elim

/-! ### in, of plain things -/
def D.flat : D → Bool
  | .non => true
  | .bl _ => true
  | .int _ => true
  | .str _ => true
  | _ => false
def eqFlat : D → D → Bool
  | .non, .non => true
  | .bl a, .bl b => a == b
  | .bl a, .int b => (if a then 1 else 0) == b
  | .int a, .bl b => a == (if b then 1 else 0)
  | .int a, .int b => a == b
  | .str a, .str b => a == b
  | _, _ => false
def dIn (neg : Bool) (d e : D) (st : Store) : Res D := match vw st e with
  | some (_, ds) => if d.flat = true ∧ ds.all D.flat = true then .ok (.bl (if neg then !(ds.any fun y => eqFlat y d) else ds.any fun y => eqFlat y d)) st else .stuck
  | none => .stuck
theorem flat_v {T : Tb} {w : Wd} {H : Hp} {d : D} {v : V} (r : Rep T w H d v) (h : d.flat = true) : flatV v = true := by
  cases d with
  | non => rw [show v = _ from r]; rfl
  | bl b => rw [show v = _ from r]; rfl
  | int b => rw [show v = _ from r]; rfl
  | str b => rw [show v = _ from r]; rfl
  | _ => cases h
theorem eqFlat_v {T : Tb} {w : Wd} {H : Hp} {d e : D} {v u : V} (r1 : Rep T w H d v) (r2 : Rep T w H e u) (h1 : d.flat = true) (h2 : e.flat = true) : eqV v u = eqFlat d e := by
  cases d <;> first | exact Bool.noConfusion h1 | (cases e <;> first | exact Bool.noConfusion h2 | (rw [show v = _ from r1, show u = _ from r2]; rfl))
theorem any_v {T : Tb} {w : Wd} {H : Hp} {d : D} {v : V} (r : Rep T w H d v) (h : d.flat = true) : ∀ {ds : List D} {vs : List V}, Reps T w H ds vs → ds.all D.flat = true → vs.all flatV = true ∧ inV v vs = ds.any fun y => eqFlat y d
  | [], vs, hr, _ => by rw [show vs = [] from hr]; exact ⟨rfl, rfl⟩
  | e :: ds, vs, hr, ha => by
    obtain ⟨u, q, rfl, r1, r2⟩ := hr
    rw [List.all_cons, Bool.and_eq_true] at ha
    obtain ⟨i1, i2⟩ := any_v r h r2 ha.2
    refine ⟨?_, ?_⟩
    · rw [List.all_cons, flat_v r1 ha.1, i1]; rfl
    · unfold inV at i2 ⊢
      rw [List.any_cons, List.any_cons, i2, eqFlat_v r1 r ha.1 h]
theorem do_in : DOp G W (compareOp .In) k (dIn false) := by
  refine ⟨rIn G.K false, fun X _ _ hK _ _ => by rw [← hK]; exact op_in_seq, fun σ w H d e x y st Q r1 r2 q h => ?_⟩
  unfold dIn at h
  split at h
  · rename_i bb ds hv
    obtain ⟨p, vs, rfl, rr, l⟩ := vw_or q r2 hv
    split at h
    · rename_i hf
      obtain ⟨i1, i2⟩ := any_v r1 hf.1 rr hf.2
      refine ⟨p, vs, rfl, l, flat_v r1 hf.1, i1, ?_⟩
      simp only [Bool.false_eq_true, if_false]
      rw [i2]
      exact h w H _ .refl q rfl
    · exact h.elim
  · exact h.elim
theorem do_notin : DOp G W (compareOp .NotIn) k (dIn true) := by
  refine ⟨rIn G.K true, fun X _ _ hK _ _ => by rw [← hK]; exact op_notIn_seq, fun σ w H d e x y st Q r1 r2 q h => ?_⟩
  unfold dIn at h
  split at h
  · rename_i bb ds hv
    obtain ⟨p, vs, rfl, rr, l⟩ := vw_or q r2 hv
    split at h
    · rename_i hf
      obtain ⟨i1, i2⟩ := any_v r1 hf.1 rr hf.2
      refine ⟨p, vs, rfl, l, flat_v r1 hf.1, i1, ?_⟩
      simp only [if_true]
      rw [i2]
      exact h w H _ .refl q rfl
    · exact h.elim
  · exact h.elim
end
end DL
end
section
set_option Elab.async false
set_option linter.all false
set_option maxRecDepth 100000
set_option maxHeartbeats 2000000
namespace DL
open PySem L2

/-! ### attributes -/
def fv (st : Store) : D → Option (Nat × List (Str × D))
  | .obj c fs => some (c, fs)
  | .box i => match st[i]? with
    | some (.ins c fs) => some (c, fs)
    | _ => none
  | _ => none
def putFD (f : Str) (v : D) : List (Str × D) → List (Str × D)
  | [] => [(f, v)]
  | (g, x) :: r => if g = f then (g, v) :: r else (g, x) :: putFD f v r
section
variable {T : Tb} {w : Wd} {H : Hp} {st : Store}
theorem fv_rep {d : D} {v : V} {c : Nat} {fs : List (Str × D)} (q : WH T w H st) (r : Rep T w H d v) (h : fv st d = some (c, fs)) :
    ∃ a dx ws, v = .ref a ∧ H a = some (.ins (T.C c) dx ws) ∧ RepF T w H fs ws := by
  cases d with
  | obj c2 fs2 =>
    cases h
    obtain ⟨a, dx, ws, e, _, h1, h2⟩ := r
    exact ⟨a, dx, ws, e, h1, h2⟩
  | box i =>
    obtain ⟨a, rfl, ha⟩ := r
    change (match st[i]? with
      | some (.ins c fs) => some (c, fs)
      | _ => none) = some (c, fs) at h
    split at h
    · rename_i c2 fs2 hz
      cases h
      obtain ⟨dx, ws, e1, rr⟩ := q.obs i a _ ha hz
      exact ⟨a, dx, ws, rfl, e1, rr⟩
    · cases h
  | _ => cases h
theorem repF_get {f : Str} {d : D} : ∀ {fs : List (Str × D)} {ws : List (Str × V)}, RepF T w H fs ws → fs.lookup f = some d → ∃ v, ws.lookup f = some v ∧ Rep T w H d v
  | [], ws, _, h => by cases h
  | (g, x) :: fs, ws, r, h => by
    obtain ⟨v, q, rfl, r1, r2⟩ := r
    rw [List.lookup_cons] at h
    rw [List.lookup_cons]
    cases c : f == g with
    | true =>
      rw [c] at h
      cases h
      exact ⟨v, rfl, r1⟩
    | false =>
      rw [c] at h
      exact repF_get r2 h
theorem RepF.len : ∀ {fs : List (Str × D)} {ws : List (Str × V)}, RepF T w H fs ws → fs.length = ws.length
  | [], ws, r => by rw [show ws = [] from r]; rfl
  | (g, x) :: fs, ws, r => by
    obtain ⟨v, q, rfl, r1, r2⟩ := r
    rw [List.length_cons, List.length_cons, RepF.len r2]
theorem RepF.put {f : Str} {d : D} {v : V} (rv : Rep T w H d v) : ∀ {fs : List (Str × D)} {ws : List (Str × V)}, RepF T w H fs ws → RepF T w H (putFD f d fs) (putF f v ws)
  | [], ws, r => by rw [show ws = [] from r]; exact ⟨v, [], rfl, rv, rfl⟩
  | (g, x) :: fs, ws, r => by
    obtain ⟨u, q, rfl, r1, r2⟩ := r
    unfold putFD putF
    by_cases e : g = f
    · rw [if_pos e, if_pos e]
      exact ⟨v, q, rfl, rv, r2⟩
    · rw [if_neg e, if_neg e]
      exact ⟨u, _, rfl, r1, RepF.put rv r2⟩
theorem lowF_put {n : Nat} {f : Str} {d : D} (hd : d.low n = true) : ∀ {fs : List (Str × D)}, D.lowF n fs = true → D.lowF n (putFD f d fs) = true
  | [], _ => by show (D.low n d && true) = true; rw [hd]; rfl
  | (g, x) :: fs, h => by
    have h' : (D.low n x && D.lowF n fs) = true := h
    rw [Bool.and_eq_true] at h'
    unfold putFD
    by_cases e : g = f
    · rw [if_pos e]
      show (D.low n d && D.lowF n fs) = true
      rw [hd, h'.2]; rfl
    · rw [if_neg e]
      show (D.low n x && D.lowF n (putFD f d fs)) = true
      rw [h'.1, lowF_put hd h'.2]; rfl
end
/-- the names that no class of it has: what an instance holds itself -/
structure NoA (G : Gd) (n : Nat) (Na : Nat → Str → Bool) : Prop where
  na : ∀ c f, c < n → Na c f = true → NoAttr G.K (G.C c) f
def dFld (n : Nat) (Na : Nat → Str → Bool) (f : Str) (d : D) (st : Store) : Res D := match fv st d with
  | some (c, fs) => if c < n ∧ Na c f = true then (match fs.lookup f with
    | some x => .ok x st
    | none => .stuck) else .stuck
  | none => .stuck
section
variable {G : Gd} {c : Ct} {k : Nat} {W : St → XK} {a b o e : Expr} {ma mb mo mv mi : ME} {pos : Pos} {n : Nat} {J : Nat → Nat → Bool} {Na : Nat → Str → Bool}
theorem de_fld {f : Str} (F : Kf G n J) (A : NoA G n Na) (ha : DE G c k W a ma) (hb : ∀ env, attributeBase a f env (eval a env) = eval a env := by intro _; rfl) : DE G c k W (.Attribute a f pos) (mUn (dFld n Na f) ma) := by
  obtain ⟨t, h1, h2⟩ := ha
  refine ⟨tFld G.K t f, fun X h => ?_, fun as H σ env st Q e w h => ?_⟩
  · rw [← h.K]
    exact pe_fld (h1 X h) (hb _)
  · refine h2 as H σ env st _ e w (Post.imp h fun d st1 w1 H1 x _ s1 q1 r1 h1 => ?_)
    unfold dFld at h1
    split at h1
    · rename_i cc fs hf
      split at h1
      · rename_i hc
        split at h1
        · rename_i y hy
          obtain ⟨p, dx, ws, rfl, e1, rr⟩ := fv_rep q1 r1 hf
          obtain ⟨v, e2, rv⟩ := repF_get rr hy
          exact ⟨p, _, dx, ws, v, rfl, e1, F.cl cc hc.1, A.na cc f hc.1 hc.2, e2, h1 w1 H1 v .refl q1 rv⟩
        · exact h1.elim
      · exact h1.elim
    · exact h1.elim
def dSetFld (n : Nat) (Na : Nat → Str → Bool) (f : Str) (d v : D) (st : Store) : Option Store := match d with
  | .box j => match st[j]? with
    | some (.ins c fs) => if c < n ∧ Na c f = true ∧ fs.length < 1000 ∧ v.low j = true then some (st.set j (.ins c (putFD f v fs))) else none
    | _ => none
  | _ => none
def msSetFld (n : Nat) (Na : Nat → Str → Bool) (f : Str) (mv mo : ME) : MS := fun env st => (mv env st).to env fun v st1 => (mo env st1).to env fun d st2 => match dSetFld n Na f d v st2 with
  | some st3 => .fl (.nx env) st3
  | none => .stuck
theorem ds_setFld {f : Str} {spos : Pos} (F : Kf G n J) (A : NoA G n Na) (hv : DE G c k W e mv) (ho : DE G c k W o mo) (hs : ∀ env, swapsWith e (some (.Attribute o f pos)) spos.line env = pure false := by intro _; rfl) :
    DS G c k W (.Assign [.Attribute o f pos] e spos) (msSetFld n Na f mv mo) := by
  obtain ⟨t, h1, h2⟩ := hv
  obtain ⟨u, h3, h4⟩ := ho
  refine ⟨sFld G.K u t f, fun X h => ?_, fun as H σ env st D e w h => ?_⟩
  · rw [← h.K]
    exact ps_fld (h3 X h) (h1 X h) (hs _)
  · refine h2 as H σ env st _ e w (PostS.imp e h fun dv st1 w1 H1 xv _ s1 q1 r1 h1 => ?_)
    refine h4 w1 H1 σ env st1 _ (e.mono s1) q1 (PostS.imp (e.mono s1) h1 fun d st2 w2 H2 xo _ s2 q2 r2 h2 => ?_)
    have rv := Rep.mono s2 _ _ r1
    cases cc : dSetFld n Na f d dv st2 with
    | none => rw [cc] at h2; exact h2.elim
    | some st4 =>
      rw [cc] at h2
      unfold dSetFld at cc
      split at cc
      · obtain ⟨a, rfl, ha2⟩ := r2
        split at cc
        · rename_i c2 fs hz
          split at cc
          · rename_i hc
            cases cc
            obtain ⟨dx, ws, e1, rr⟩ := q2.obs _ a _ ha2 hz
            have hm : a ∈ w2.as := List.mem_iff_getElem?.mpr ⟨_, ha2⟩
            have lz := q2.ord _ _ hz
            refine ⟨a, _, dx, ws, rfl, e1, F.cl _ hc.1, A.na _ f hc.1 hc.2.1, by rw [← rr.len]; exact hc.2.2.1, ?_⟩
            exact h2 w2 _ σ (.put hm) (q2.put ha2 ⟨dx, _, upd_same, RepF.mono (.put hm) _ _ (rr.put rv)⟩ (lowF_put hc.2.2.2 lz)) ((e.mono (s1.trans s2)).mono (.put hm))
          · cases cc
        · cases cc
      · cases cc

/-! ### dicts with keys that are ints and texts -/
def dv (st : Store) : D → Option (List (Key × D))
  | .dic kvs => some kvs
  | .box i => match st[i]? with
    | some (.dic kvs) => some kvs
    | _ => none
  | _ => none
def keyOf : D → Option Key
  | .int i => some (.inl i)
  | .str z => some (.inr z)
  | _ => none
end
section
variable {T : Tb} {w : Wd} {H : Hp} {st : Store}
theorem dv_rep {d : D} {v : V} {kvs : List (Key × D)} (q : WH T w H st) (r : Rep T w H d v) (h : dv st d = some kvs) :
    ∃ a ws, v = .ref a ∧ Rd H a (.dK ws) ∧ RepK T w H kvs ws := by
  cases d with
  | dic kvs2 =>
    cases h
    obtain ⟨a, ws, e, _, h1, h2⟩ := r
    exact ⟨a, ws, e, h1, h2⟩
  | box i =>
    obtain ⟨a, rfl, ha⟩ := r
    change (match st[i]? with
      | some (.dic kvs) => some kvs
      | _ => none) = some kvs at h
    split at h
    · rename_i kvs2 hz
      cases h
      obtain ⟨ws, e1, rr⟩ := q.obs i a _ ha hz
      exact ⟨a, ws, rfl, .inl e1, rr⟩
    · cases h
  | _ => cases h
theorem key_rep {d : D} {v : V} {k : Key} (r : Rep T w H d v) (h : keyOf d = some k) : v = kV k := by
  cases d with
  | int i => cases h; exact r
  | str i => cases h; exact r
  | _ => cases h
def valD (kvs : List (Key × D)) (k : Key) : Option D := (kvs.find? fun kv => decide (kv.1 = k)).map (·.2)
def putD (kvs : List (Key × D)) (k : Key) (v : D) : List (Key × D) :=
  if (kvs.any fun kv => decide (kv.1 = k)) = true then kvs.map (fun kv => if kv.1 = k then (kv.1, v) else kv) else kvs ++ [(k, v)]
theorem repK_val {k : Key} : ∀ {kvs : List (Key × D)} {ws : List (Key × V)}, RepK T w H kvs ws →
    (∀ d, valD kvs k = some d → ∃ v, valV ws k = some v ∧ Rep T w H d v) ∧ (valD kvs k = none → valV ws k = none)
  | [], ws, r => by
    rw [show ws = [] from r]
    refine ⟨fun d h => ?_, fun _ => rfl⟩
    exact nomatch (show (none : Option D) = some d from h)
  | (g, x) :: kvs, ws, r => by
    obtain ⟨v, q, rfl, r1, r2⟩ := r
    have ih := repK_val (k := k) r2
    by_cases e : g = k
    · have e1 : valD ((g, x) :: kvs) k = some x := by simp [valD, List.find?_cons, e]
      have e2 : valV ((g, v) :: q) k = some v := valV_pos e
      rw [e1, e2]
      refine ⟨fun d h => ⟨v, rfl, ?_⟩, fun h => nomatch h⟩
      cases h; exact r1
    · have e1 : valD ((g, x) :: kvs) k = valD kvs k := by simp [valD, List.find?_cons, e]
      have e2 : valV ((g, v) :: q) k = valV q k := valV_neg e
      rw [e1, e2]
      exact ih
theorem repK_any {k : Key} : ∀ {kvs : List (Key × D)} {ws : List (Key × V)}, RepK T w H kvs ws → (kvs.any fun kv => decide (kv.1 = k)) = ws.any fun kv => decide (kv.1 = k)
  | [], ws, r => by rw [show ws = [] from r]; rfl
  | (g, x) :: kvs, ws, r => by
    obtain ⟨v, q, rfl, r1, r2⟩ := r
    rw [List.any_cons, List.any_cons, repK_any r2]
theorem RepK.len : ∀ {fs : List (Key × D)} {ws : List (Key × V)}, RepK T w H fs ws → fs.length = ws.length
  | [], ws, r => by rw [show ws = [] from r]; rfl
  | (g, x) :: fs, ws, r => by
    obtain ⟨v, q, rfl, r1, r2⟩ := r
    rw [List.length_cons, List.length_cons, RepK.len r2]
theorem RepK.repl {k : Key} {d : D} {v : V} (rv : Rep T w H d v) : ∀ {kvs : List (Key × D)} {ws : List (Key × V)}, RepK T w H kvs ws →
    RepK T w H (kvs.map fun kv => if kv.1 = k then (kv.1, d) else kv) (ws.map fun kv => if kv.1 = k then (kv.1, v) else kv)
  | [], ws, r => by rw [show ws = [] from r]; rfl
  | (g, x) :: kvs, ws, r => by
    obtain ⟨u, q, rfl, r1, r2⟩ := r
    rw [List.map_cons, List.map_cons]
    by_cases e : g = k
    · rw [if_pos e, if_pos e]
      exact ⟨v, _, rfl, rv, RepK.repl rv r2⟩
    · rw [if_neg e, if_neg e]
      exact ⟨u, _, rfl, r1, RepK.repl rv r2⟩
theorem RepK.snoc {k : Key} {d : D} {v : V} (rv : Rep T w H d v) : ∀ {kvs : List (Key × D)} {ws : List (Key × V)}, RepK T w H kvs ws → RepK T w H (kvs ++ [(k, d)]) (ws ++ [(k, v)])
  | [], ws, r => by rw [show ws = [] from r]; exact ⟨v, [], rfl, rv, rfl⟩
  | (g, x) :: kvs, ws, r => by
    obtain ⟨u, q, rfl, r1, r2⟩ := r
    exact ⟨u, _, rfl, r1, RepK.snoc rv r2⟩
theorem RepK.put {k : Key} {d : D} {v : V} (rv : Rep T w H d v) {kvs : List (Key × D)} {ws : List (Key × V)} (r : RepK T w H kvs ws) : RepK T w H (putD kvs k d) (putK ws k v) := by
  unfold putD putK
  rw [repK_any r]
  split
  · exact r.repl rv
  · exact r.snoc rv
theorem lowK_repl {n : Nat} {k : Key} {d : D} (hd : d.low n = true) : ∀ {kvs : List (Key × D)}, D.lowK n kvs = true → D.lowK n (kvs.map fun kv => if kv.1 = k then (kv.1, d) else kv) = true
  | [], _ => rfl
  | (g, x) :: kvs, h => by
    have h' : (D.low n x && D.lowK n kvs) = true := h
    rw [Bool.and_eq_true] at h'
    rw [List.map_cons]
    by_cases e : g = k
    · rw [if_pos e]
      show (D.low n d && D.lowK n _) = true
      rw [hd, lowK_repl hd h'.2]; rfl
    · rw [if_neg e]
      show (D.low n x && D.lowK n _) = true
      rw [h'.1, lowK_repl hd h'.2]; rfl
theorem lowK_snoc {n : Nat} {k : Key} {d : D} (hd : d.low n = true) : ∀ {kvs : List (Key × D)}, D.lowK n kvs = true → D.lowK n (kvs ++ [(k, d)]) = true
  | [], _ => by show (D.low n d && true) = true; rw [hd]; rfl
  | (g, x) :: kvs, h => by
    have h' : (D.low n x && D.lowK n kvs) = true := h
    rw [Bool.and_eq_true] at h'
    show (D.low n x && D.lowK n _) = true
    have ih : D.lowK n (kvs.append [(k, d)]) = true := lowK_snoc hd h'.2
    rw [h'.1, ih]; rfl
theorem lowK_put {n : Nat} {k : Key} {d : D} (hd : d.low n = true) {kvs : List (Key × D)} (h : D.lowK n kvs = true) : D.lowK n (putD kvs k d) = true := by
  unfold putD
  split
  · exact lowK_repl hd h
  · exact lowK_snoc hd h
end
section
variable {G : Gd} {c : Ct} {k : Nat} {W : St → XK} {a b o i e f : Expr} {ma mb mo mv mi mf : ME} {pos : Pos}
/-- d[y] -/
def dDGet (d e : D) (st : Store) : Res D := match dv st d, keyOf e with
  | some kvs, some q => match valD kvs q with
    | some x => .ok x st
    | none => .stuck
  | _, _ => .stuck
theorem de_dget (ha : DE G c k W a ma) (hb : DE G c k W b mb) (hs : NoSl b := by exact fun _ _ => rfl) : DE G c k W (.Subscript a b pos) (mOp dDGet ma mb) := by
  obtain ⟨t, h1, h2⟩ := ha
  obtain ⟨u, h3, h4⟩ := hb
  refine ⟨tDGet t u, fun X h => pe_dget (hu_of h.room) (h1 X h) (h3 X h) hs, fun as H σ env st Q e w h => ?_⟩
  refine h2 as H σ env st _ e w (Post.imp h fun d st1 w1 H1 x _ s1 q1 r1 h1 => ?_)
  refine h4 w1 H1 σ env st1 _ (e.mono s1) q1 (Post.imp h1 fun d2 st2 w2 H2 y _ s2 q2 r2 h2 => ?_)
  unfold dDGet at h2
  split at h2
  · rename_i kvs q hd hq
    split at h2
    · rename_i z hz
      obtain ⟨p, ws, rfl, e1, rr⟩ := dv_rep q2 (Rep.mono s2 _ _ r1) hd
      obtain ⟨v, e2, rv⟩ := (repK_val rr).1 z hz
      exact ⟨p, v, rfl, .inl ⟨ws, q, e1, key_rep r2 hq, e2.symm⟩, h2 w2 H2 v .refl q2 rv⟩
    · exact h2.elim
  · exact h2.elim
/-- d.get(y, x) -/
def mDGet2 (mo mi mf : ME) : ME := fun env st => (mo env st).bind fun d st1 => match dv st1 d with
  | none => .stuck
  | some _ => (mi env st1).bind fun y st2 => (mf env st2).bind fun z st3 => match dv st3 d, keyOf y with
    | some kvs, some q => .ok ((valD kvs q).getD z) st3
    | _, _ => .stuck
theorem de_dget2 {apos cpos : Pos} (ho : DE G c k W o mo) (he : DE G c k W e mi) (hf : DE G c k W f mf)
    (hbase : ∀ env, attributeBase o "get" env (eval o env) = eval o env := by intro _; rfl)
    (hfew : ∀ env, ((backTo cpos (starEach [e, f] env)).all (fun x => !x.1) && (backToKw cpos (keywordEach [] env)).all (fun x => x.1.isSome)
      && decide (([e, f] : List Expr).length + ([] : List Keyword).length + (if ([] : List Keyword).isEmpty then 0 else 1) < 30)) = true := by intro _; rfl)
    (hline : (apos.endLine == cpos.line) = true := by rfl) (ht : ∀ env, backTo cpos (starEach [e, f] env) = [(false, eval e env), (false, eval f env)] := by intro _; rfl) :
    DE G c k W (.Call (.Attribute o "get" apos) [e, f] [] cpos) (mDGet2 mo mi mf) := by
  obtain ⟨t, h1, h2⟩ := ho
  obtain ⟨u, h3, h4⟩ := he
  obtain ⟨v, h5, h6⟩ := hf
  refine ⟨tDGet2 t u v, fun X h => pe_dget2 (hu_of h.room) (h1 X h) (h3 X h) (h5 X h) ⟨hbase _, hfew _, hline, ht _⟩, fun as H σ env st Q e w h => ?_⟩
  refine h2 as H σ env st _ e w (Post.imp h fun d st1 w1 H1 x _ s1 q1 r1 h1 => ?_)
  split at h1
  · exact h1.elim
  · rename_i kv0 hk0
    obtain ⟨p, ws, rfl, e1, rr⟩ := dv_rep q1 r1 hk0
    refine ⟨p, rfl, .inl ⟨ws, e1⟩, ?_⟩
    refine h4 w1 H1 σ env st1 _ (e.mono s1) q1 (Post.imp h1 fun y st2 w2 H2 yv _ s2 q2 r2 h2 => ?_)
    refine h6 w2 H2 σ env st2 _ (e.mono (s1.trans s2)) q2 (Post.imp h2 fun z st3 w3 H3 zv _ s3 q3 r3 h3 => ?_)
    split at h3
    · rename_i kvs q hd hq
      obtain ⟨p2, ws2, ep, e2, rr2⟩ := dv_rep q3 (Rep.mono (s2.trans s3) _ _ r1) hd
      cases ep
      refine ⟨valV ws2 q, .inl ⟨ws2, q, e2, key_rep (Rep.mono s3 _ _ r2) hq, rfl⟩, h3 w3 H3 _ .refl q3 ?_⟩
      obtain ⟨k1, k2⟩ := repK_val (k := q) rr2
      cases hv : valD kvs q with
      | none => rw [k2 hv]; exact r3
      | some d0 =>
        obtain ⟨v0, e3, rv⟩ := k1 d0 hv
        rw [e3]; exact rv
    · exact h3.elim
/-- y in d -/
def rDIn (neg : Bool) : R2 := fun y x H Q => ∃ a o, x = .ref a ∧ DGet H a y o ∧ Q (.bl (if neg then !o.isSome else o.isSome)) H
def dDIn (neg : Bool) (y d : D) (st : Store) : Res D := match dv st d with
  | some kvs => match keyOf y with
    | some q => .ok (.bl (if neg then !(valD kvs q).isSome else (valD kvs q).isSome)) st
    | none => .stuck
  | none => dIn neg y d st
theorem sr_din {T : Tb} {E : XK} {neg : Bool} (h0 : SimR T E (rIn T.K neg) (dIn neg)) : SimR T E (fun x y H Q => rDIn neg x y H Q ∨ rIn T.K neg x y H Q) (dDIn neg) := fun w H d e x y st Q r1 r2 q h => by
  unfold dDIn at h
  split at h
  · rename_i kvs hd
    split at h
    · rename_i kk hq
      obtain ⟨p, ws, rfl, e1, rr⟩ := dv_rep q r2 hd
      refine .inl ⟨p, valV ws kk, rfl, .inl ⟨ws, kk, e1, key_rep r1 hq, rfl⟩, ?_⟩
      obtain ⟨k1, k2⟩ := repK_val (k := kk) rr
      have es : (valV ws kk).isSome = (valD kvs kk).isSome := by
        cases hv : valD kvs kk with
        | none => rw [k2 hv]; rfl
        | some d0 =>
          obtain ⟨v0, e3, rv⟩ := k1 d0 hv
          rw [e3]; rfl
      rw [es]
      exact h w H _ .refl q rfl
    · exact h.elim
  · exact .inr (h0 w H d e x y st Q r1 r2 q h)
theorem rIn_sim {T : Tb} {E : XK} {neg : Bool} : SimR T E (rIn T.K neg) (dIn neg) := fun w H d e x y st Q r1 r2 q h => by
  unfold dIn at h
  split at h
  · rename_i bb ds hv
    obtain ⟨p, vs, rfl, rr, l⟩ := vw_or q r2 hv
    split at h
    · rename_i hf
      obtain ⟨i1, i2⟩ := any_v r1 hf.1 rr hf.2
      refine ⟨p, vs, rfl, l, flat_v r1 hf.1, i1, ?_⟩
      cases neg with
      | true => simp only [if_true] at h ⊢; rw [i2]; exact h w H _ .refl q rfl
      | false => simp only [Bool.false_eq_true, if_false] at h ⊢; rw [i2]; exact h w H _ .refl q rfl
    · exact h.elim
  · exact h.elim
theorem do_inD : DOp G W (compareOp .In) k (dDIn false) := by
  refine ⟨fun x y H Q => rDIn false x y H Q ∨ rIn G.K false x y H Q, fun X _ _ hK _ hr => ?_, fun σ => sr_din rIn_sim⟩
  rw [← hK]
  refine OpR.or (fun pins s σ H x y v u Q I r1 r2 h => ?_) op_in_seq
  obtain ⟨a, o, rfl, g, q⟩ := h
  obtain rfl : u = Value.ref a := r2
  exact d_in (hu_of hr) I g r1 fun s1 I1 => ⟨.bl o.isSome, H, I1, rfl, q⟩
theorem do_notinD : DOp G W (compareOp .NotIn) k (dDIn true) := by
  refine ⟨fun x y H Q => rDIn true x y H Q ∨ rIn G.K true x y H Q, fun X _ _ hK _ hr => ?_, fun σ => sr_din rIn_sim⟩
  rw [← hK]
  refine OpR.or (fun pins s σ H x y v u Q I r1 r2 h => ?_) op_notIn_seq
  obtain ⟨a, o, rfl, g, q⟩ := h
  obtain rfl : u = Value.ref a := r2
  exact d_notIn (hu_of hr) I g r1 fun s1 I1 => ⟨.bl (!o.isSome), H, I1, rfl, q⟩
/-- {} -/
def mDNew : ME := fun _ st => .ok (.box st.length) (st ++ [.dic []])
theorem de_dnew : DE G c k W (.Dict [] [] pos) mDNew := by
  refine ⟨tDNewK, fun X h => pe_dnewK, fun as H σ env st Q e w h => ?_⟩
  intro p hp
  refine h (as.add p) _ _ (.obj hp) (w.obj hp ⟨[], upd_same, rfl⟩ rfl) ⟨p, rfl, ?_⟩
  show (as.as ++ [p])[st.length]? = some p
  rw [← w.len, List.getElem?_append_right (Nat.le_refl _), Nat.sub_self]
  rfl
/-- d[y] = v -/
def dDPut (d e v : D) (st : Store) : Option Store := match d, keyOf e with
  | .box j, some q => match st[j]? with
    | some (.dic kvs) => if kvs.length < lim ∧ v.low j = true then some (st.set j (.dic (putD kvs q v))) else none
    | _ => none
  | _, _ => none
def msDPut (mv mo mi : ME) : MS := fun env st => (mv env st).to env fun v st1 => (mo env st1).to env fun d st2 => (mi env st2).to env fun e st3 => match dDPut d e v st3 with
  | some st4 => .fl (.nx env) st4
  | none => .stuck
theorem ds_dput {spos : Pos} (hv : DE G c k W e mv) (ho : DE G c k W o mo) (hi : DE G c k W i mi) (hs : ∀ env, swapsWith e (some (.Subscript o i pos)) spos.line env = pure false := by intro _; rfl) :
    DS G c k W (.Assign [.Subscript o i pos] e spos) (msDPut mv mo mi) := by
  obtain ⟨t, h1, h2⟩ := hv
  obtain ⟨u, h3, h4⟩ := ho
  obtain ⟨v, h5, h6⟩ := hi
  refine ⟨sDPut u v t, fun X h => ps_dput (hu_of h.room) (h3 X h) (h5 X h) (h1 X h) (hs _), fun as H σ env st D e w h => ?_⟩
  refine h2 as H σ env st _ e w (PostS.imp e h fun dv0 st1 w1 H1 xv _ s1 q1 r1 h1 => ?_)
  refine h4 w1 H1 σ env st1 _ (e.mono s1) q1 (PostS.imp (e.mono s1) h1 fun d st2 w2 H2 xo _ s2 q2 r2 h2 => ?_)
  refine h6 w2 H2 σ env st2 _ (e.mono (s1.trans s2)) q2 (PostS.imp (e.mono (s1.trans s2)) h2 fun de st3 w3 H3 xi _ s3 q3 r3 h3 => ?_)
  have rv := Rep.mono (s2.trans s3) _ _ r1
  have rd := Rep.mono s3 _ _ r2
  cases cc : dDPut d de dv0 st3 with
  | none => rw [cc] at h3; exact h3.elim
  | some st4 =>
    rw [cc] at h3
    unfold dDPut at cc
    split at cc
    · have hq := ‹keyOf de = some _›
      obtain ⟨a, rfl, ha2⟩ := rd
      split at cc
      · rename_i kvs hz
        split at cc
        · rename_i hc
          cases cc
          obtain ⟨ws, e1, rr⟩ := q3.obs _ a _ ha2 hz
          have hm : a ∈ w3.as := List.mem_iff_getElem?.mpr ⟨_, ha2⟩
          have lz := q3.ord _ _ hz
          refine ⟨a, _, rfl, .inl ⟨ws, _, e1, key_rep r3 hq, by rw [← rr.len]; exact Nat.lt_of_lt_of_le hc.1 lim_le, rfl⟩, ?_⟩
          exact h3 w3 _ σ (.put hm) (q3.put ha2 ⟨_, upd_same, RepK.mono (.put hm) _ _ (rr.put rv)⟩ (lowK_put hc.2 lz)) ((e.mono ((s1.trans s2).trans s3)).mono (.put hm))
        · cases cc
      · cases cc
    · cases cc
end
end DL
end
section
set_option Elab.async false
set_option linter.all false
set_option maxRecDepth 100000
set_option maxHeartbeats 2000000
namespace DL
open PySem L2 PySem.Spec PyProof.Rows RZ

/-! ### sorted, of texts -/
def leS (a b : Str) : Bool := !ltCps b.cps.toList a.cps.toList
theorem leS_iff {a b : Str} : leS a b = true ↔ ¬ b.cps.toList < a.cps.toList := by
  unfold leS
  rw [ltCps_eq]
  simp
theorem leS_total (a b : Str) : leS a b = true ∨ leS b a = true := by
  rw [leS_iff, leS_iff]
  by_cases h : b.cps.toList < a.cps.toList
  · exact .inr (List.lt_asymm h)
  · exact .inl h
theorem leS_trans {a b c : Str} (h : leS a b = true) (g : leS b c = true) : leS a c = true := by
  rw [leS_iff, List.not_lt] at h g ⊢
  exact List.le_trans h g
theorem leS_anti {a b : Str} (h : leS a b = true) (g : leS b a = true) : a = b := by
  rw [leS_iff, List.not_lt] at h g
  have e : a.cps.toList = b.cps.toList := List.le_antisymm h g
  cases a with | mk x => cases b with | mk y =>
  congr 1
  exact Array.toList_inj.mp e
theorem sorted_pw : ∀ (l : List Str), sortedS l = true → l.Pairwise fun a b => leS a b = true
  | [], _ => .nil
  | [x], _ => List.pairwise_singleton _ _
  | x :: y :: r, h => by
    have h1 : (leS x y && risingS y r) = true := h
    rw [Bool.and_eq_true] at h1
    have ih := sorted_pw (y :: r) h1.2
    rw [List.pairwise_cons]
    refine ⟨fun z hz => ?_, ih⟩
    rcases List.mem_cons.mp hz with rfl | hz
    · exact h1.1
    · exact leS_trans h1.1 (List.rel_of_pairwise_cons ih hz)
theorem sort_uniq : ∀ {l m : List Str}, l.Perm m → (l.Pairwise fun a b => leS a b = true) → (m.Pairwise fun a b => leS a b = true) → l = m
  | [], m, p, _, _ => (List.nil_perm.mp p).symm
  | a :: l, [], p, _, _ => absurd (List.perm_nil.mp p) (by simp)
  | a :: l, b :: m, p, h1, h2 => by
    have e : a = b := by
      have m1 : a ∈ b :: m := p.mem_iff.mp (List.mem_cons_self ..)
      have m2 : b ∈ a :: l := p.mem_iff.mpr (List.mem_cons_self ..)
      rcases List.mem_cons.mp m1 with e | m1
      · exact e
      · rcases List.mem_cons.mp m2 with e | m2
        · exact e.symm
        · exact leS_anti (List.rel_of_pairwise_cons h1 m2) (List.rel_of_pairwise_cons h2 m1)
    subst e
    rw [sort_uniq (List.Perm.cons_inv p) (List.pairwise_cons.mp h1).2 (List.pairwise_cons.mp h2).2]
def insS (x : Str) : List Str → List Str
  | [] => [x]
  | y :: r => if leS x y = true then x :: y :: r else y :: insS x r
def sortStr : List Str → List Str
  | [] => []
  | x :: r => insS x (sortStr r)
theorem insS_perm (x : Str) : ∀ l : List Str, (insS x l).Perm (x :: l)
  | [] => .refl _
  | y :: r => by
    unfold insS
    split
    · exact .refl _
    · exact ((insS_perm x r).cons y).trans (.swap x y r)
theorem sortStr_perm : ∀ l : List Str, (sortStr l).Perm l
  | [] => .refl _
  | x :: r => (insS_perm x _).trans ((sortStr_perm r).cons x)
theorem insS_pw (x : Str) : ∀ {l : List Str}, (l.Pairwise fun a b => leS a b = true) → (insS x l).Pairwise fun a b => leS a b = true
  | [], _ => List.pairwise_singleton _ _
  | y :: r, h => by
    unfold insS
    split
    · rename_i hx
      rw [List.pairwise_cons]
      refine ⟨fun z hz => ?_, h⟩
      rcases List.mem_cons.mp hz with rfl | hz
      · exact hx
      · exact leS_trans hx (List.rel_of_pairwise_cons h hz)
    · rename_i hx
      have hy : leS y x = true := (leS_total x y).resolve_left hx
      rw [List.pairwise_cons]
      refine ⟨fun z hz => ?_, insS_pw x (List.pairwise_cons.mp h).2⟩
      rcases List.mem_cons.mp ((insS_perm x r).mem_iff.mp hz) with rfl | hz
      · exact hy
      · exact List.rel_of_pairwise_cons h hz
theorem sortStr_pw : ∀ l : List Str, (sortStr l).Pairwise fun a b => leS a b = true
  | [] => .nil
  | x :: r => insS_pw x (sortStr_pw r)
theorem sorted_is {xs ys : List Str} (p : ys.Perm xs) (h : sortedS ys = true) : ys = sortStr xs := sort_uniq (p.trans (sortStr_perm xs).symm) (sorted_pw _ h) (sortStr_pw _)
section
variable {G : Gd} {c : Ct} {k : Nat} {W : L2.St → XK} {a b tg e : Expr} {ma mb : ME} {pos : Pos}
/-- sorted(xs): a list of texts, or a dict whose keys are texts -/
def keyStrs : List (Key × D) → Option (List Str)
  | [] => some []
  | (.inr z, _) :: r => (keyStrs r).map (z :: ·)
  | (.inl _, _) :: _ => none
theorem keyStrs_is {T : Tb} {w : Wd} {H : Hp} : ∀ {kvs : List (Key × D)} {ws : List (Key × V)} {zs : List Str}, RepK T w H kvs ws → keyStrs kvs = some zs → ws.map (·.1) = zs.map Sum.inr
  | [], ws, zs, r, h => by
    rw [show ws = [] from r]
    cases h; rfl
  | (.inr z, d) :: kvs, ws, zs, r, h => by
    obtain ⟨v, q, rfl, r1, r2⟩ := r
    have h' : (keyStrs kvs).map (z :: ·) = some zs := h
    obtain ⟨ys, hy, rfl⟩ := Option.map_eq_some_iff.mp h'
    rw [List.map_cons, List.map_cons, keyStrs_is r2 hy]
  | (.inl z, d) :: kvs, ws, zs, r, h => nomatch h
def bSorted (ds : List D) (st : Store) : Res D := match ds with
  | [d] => match dv st d with
    | some kvs => match keyStrs kvs with
      | some zs => if zs.length < 64 then .ok (.lst ((sortStr zs).map .str)) st else .stuck
      | none => .stuck
    | none => match vw st d with
      | some (true, xs) => match D.strs xs with
        | some zs => if zs.length < 64 then .ok (.lst ((sortStr zs).map .str)) st else .stuck
        | none => .stuck
      | _ => .stuck
  | _ => .stuck
theorem CallR.or {X : Cx} {f : Value} {r r' : List V → Hp → VK → Prop} (h : CallR X f r) (h' : CallR X f r') : CallR X f (fun xs H Q => r xs H Q ∨ r' xs H Q) := fun pins s σ H vs us Q I rv q => q.elim (fun q => h pins s σ H vs us Q I rv q) fun q => h' pins s σ H vs us Q I rv q
theorem db_sorted : DB G W k (.builtin "sorted") bSorted := by
  refine ⟨fun xs H Q => (∃ (a : Addr) (kvs : List (Key × V)) (ks : List Str), xs = [.ref a] ∧ Rd H a (.dK kvs) ∧ kvs.map (·.1) = ks.map Sum.inr ∧ ks.length < 64 ∧
    ∀ ys p, ys.Perm ks → sortedS ys = true → H p = none → Q (.ref p) (upd H p (.lst (ys.map V.str)))) ∨ rSortedS G.K xs H Q, fun X _ _ hK hc _ => ?_, fun σ w H ds xs st Q r q h => ?_⟩
  · rw [← hK]
    exact CallR.or (call_sortedD hc) cr_sortedS
  · unfold bSorted at h
    split at h
    · rename_i d
      obtain ⟨v, rfl, rd⟩ := reps1 r
      have fin : ∀ zs : List Str, Post G.T (Rep G.T) w H (.ok (.lst ((sortStr zs).map .str)) st) Q (W σ) → ∀ (ys : List Str) (p : Addr), ys.Perm zs → sortedS ys = true → H p = none → Q (.ref p) (upd H p (.lst (ys.map V.str))) := fun zs h ys p hp hs hn => by
        rw [sorted_is hp hs]
        exact h w _ _ (.node hn) (q.node hn) ⟨p, _, rfl, ⟨q.new hn, upd_same⟩, reps_of_strs _⟩
      split at h
      · rename_i kvs hd
        split at h
        · rename_i zs hz
          split at h
          · rename_i hl
            obtain ⟨p, ws, rfl, e1, rr⟩ := dv_rep q rd hd
            exact .inl ⟨p, ws, zs, rfl, e1, keyStrs_is rr hz, hl, fin zs h⟩
          · exact h.elim
        · exact h.elim
      · split at h
        · rename_i ys hv
          split at h
          · rename_i zs hz
            split at h
            · rename_i hl
              obtain ⟨p, vs, rfl, rr, l1, l2⟩ := vw_rep q rd hv
              have ev := reps_strs rr hz
              subst ev
              exact .inr ⟨p, zs, rfl, l1 rfl, hl, fin zs h⟩
            · exact h.elim
          · exact h.elim
        · exact h.elim
    · exact h.elim

/-! ### enumerate, zip: lists as they are -/
def fixL : D → Option (List D)
  | .lst ds => some ds
  | .scr ds => some ds
  | _ => none
def enumD : Nat → List D → List D
  | _, [] => []
  | n, d :: r => .tup [.int n, d] :: enumD (n + 1) r
theorem enumD_get : ∀ {n : Nat} {ds : List D} {i : Nat} {z : D}, (enumD n ds)[i]? = some z → ∃ d, ds[i]? = some d ∧ z = .tup [.int ((n + i : Nat) : Int), d]
  | n, [], i, z, h => by cases i <;> cases h
  | n, d :: r, 0, z, h => by
    have h' : some (D.tup [.int n, d]) = some z := h
    cases h'
    exact ⟨d, rfl, rfl⟩
  | n, d :: r, i + 1, z, h => by
    obtain ⟨d2, h1, h2⟩ := enumD_get (n := n + 1) (show (enumD (n + 1) r)[i]? = some z from h)
    refine ⟨d2, h1, ?_⟩
    rw [h2, show n + 1 + i = n + (i + 1) by omega]
theorem enumD_len : ∀ {n : Nat} {ds : List D}, (enumD n ds).length = ds.length
  | n, [] => rfl
  | n, d :: r => by
    show (enumD (n + 1) r).length + 1 = _
    rw [enumD_len]; rfl
theorem fixL_rep {T : Tb} {w : Wd} {H : Hp} {d : D} {v : V} {ds : List D} (r : Rep T w H d v) (h : fixL d = some ds) : ∃ a vs, v = .ref a ∧ Reps T w H ds vs ∧ ∀ w2 H', Step w H w2 H' → SqL T.K H' a vs := by
  cases d with
  | lst xs =>
    cases h
    obtain ⟨a, vs, rfl, l, rr⟩ := r
    exact ⟨a, vs, rfl, rr, fun w2 H' s => (l.mono s).sq⟩
  | scr xs =>
    cases h
    obtain ⟨a, vs, rfl, l, rr⟩ := r
    exact ⟨a, vs, rfl, rr, fun w2 H' s => (l.kp s.kp).sq⟩
  | _ => cases h
def srcEnum (ds : List D) (st : Store) : Res Src := match ds with
  | [d] => match fixL d with
    | some xs => .ok (.fix (enumD 0 xs)) st
    | none => .stuck
  | _ => .stuck
def mEnum (m : MA) : MI := fun env st => (m env st).bind srcEnum
theorem iter_e {T : Tb} {w : Wd} {H : Hp} {a : Addr} {vs : List V} {ds : List D} (hs : ∀ w2 H', Step w H w2 H' → SqL T.K H' a vs) (r : Reps T w H ds vs) : IterOk T w H (.fix (enumD 0 ds)) (Ite T.K a) := by
  intro w2 H' st s q
  have h1 := hs w2 H' s
  refine ⟨fun i d hd => ?_, fun i hi => ⟨vs, h1, by rw [← r.len]; rw [enumD_len] at hi; exact hi⟩⟩
  obtain ⟨d0, hd0, rfl⟩ := enumD_get hd
  obtain ⟨v, hv, rv⟩ := reps_get r hd0
  refine ⟨⟨vs, v, h1, hv⟩, fun x H2 y => ?_⟩
  obtain ⟨t, x2, rfl, hn, rfl, y⟩ := y
  have := y vs h1
  rw [hv] at this
  cases this
  refine ⟨.node hn, q.node hn, t, _, rfl, .inl ⟨q.new hn, .inl upd_same⟩, ?_⟩
  rw [Nat.zero_add]
  exact ⟨_, _, rfl, rfl, _, _, rfl, Rep.mono (s.trans (.node hn)) _ _ rv, rfl⟩
theorem di_enum {elts : List Expr} {kk : Nat} {tpos p : Pos} {m : MA} (hm : G.mg "enumerate" = none) (hg : c.sc.names.lookup ("enumerate" : Str) = some .globalImplicit) (ha : DA G c k W [a] m) (hs : ∀ env, starEach [a] env = [(false, eval a env)] := by intro _; rfl) :
    DI G c k W (.Tuple elts kk tpos) (.Call (.Name "enumerate" p) [a] [] pos) (mEnum m) := by
  obtain ⟨t, h1, h2⟩ := ha
  refine ⟨iEnum G.K t, fun X h => ?_, fun as H σ env st R e w h => ?_⟩
  · rw [← h.K]
    exact pi_enum (h.gl hg) (by rw [h.mg]; exact hm) (h1 X h) (hs _)
  · refine h2 as H σ env st _ e w (Post.imp h fun ds st1 as1 H1 xs _ s1 w1 r1 h1 => ?_)
    unfold srcEnum at h1
    split at h1
    · obtain ⟨v, rfl, rd⟩ := reps1 r1
      split at h1
      · rename_i ys hy
        obtain ⟨p, vs, rfl, rr, l⟩ := fixL_rep rd hy
        exact ⟨p, vs, rfl, l _ _ .refl, h1 as1 H1 _ .refl w1 (iter_e l rr)⟩
      · exact h1.elim
    · exact h1.elim
def zipD : List D → List D → List D
  | x :: xs, y :: ys => .tup [x, y] :: zipD xs ys
  | _, _ => []
theorem zipD_get : ∀ {ds es : List D} {i : Nat} {z : D}, (zipD ds es)[i]? = some z → ∃ d e, ds[i]? = some d ∧ es[i]? = some e ∧ z = .tup [d, e]
  | [], _, i, z, h => by cases i <;> cases h
  | _ :: _, [], i, z, h => by cases i <;> cases h
  | d :: ds, e :: es, 0, z, h => by
    have h' : some (D.tup [d, e]) = some z := h
    cases h'
    exact ⟨d, e, rfl, rfl, rfl⟩
  | d :: ds, e :: es, i + 1, z, h => by
    have h' : (zipD ds es)[i]? = some z := h
    exact zipD_get (ds := ds) (es := es) (i := i) h'
theorem zipD_len : ∀ {ds es : List D} {i : Nat}, (zipD ds es).length ≤ i → ds.length ≤ i ∨ es.length ≤ i
  | [], _, i, _ => .inl (Nat.zero_le _)
  | _ :: _, [], i, _ => .inr (Nat.zero_le _)
  | d :: ds, e :: es, 0, h => absurd h (by show ¬ (zipD ds es).length + 1 ≤ 0; omega)
  | d :: ds, e :: es, i + 1, h => by
    rcases zipD_len (i := i) (show (zipD ds es).length ≤ i from Nat.le_of_succ_le_succ h) with q | q
    · exact .inl (Nat.succ_le_succ q)
    · exact .inr (Nat.succ_le_succ q)
def srcZip (ds : List D) (st : Store) : Res Src := match ds with
  | [d, e] => match fixL d, fixL e with
    | some xs, some ys => .ok (.fix (zipD xs ys)) st
    | _, _ => match d, e with
      | .tup xs, .tup ys => .ok (.fix (zipD xs ys)) st
      | _, _ => .stuck
  | _ => .stuck
def mZip (m : MA) : MI := fun env st => (m env st).bind srcZip
theorem iter_z {T : Tb} {w : Wd} {H : Hp} {a b : Addr} {vs us : List V} {ds es : List D} (hs : ∀ w2 H', Step w H w2 H' → SqL T.K H' a vs) (hs2 : ∀ w2 H', Step w H w2 H' → SqL T.K H' b us) (r : Reps T w H ds vs) (r2 : Reps T w H es us) : IterOk T w H (.fix (zipD ds es)) (Itz T.K a b) := by
  intro w2 H' st s q
  have h1 := hs w2 H' s
  have h2 := hs2 w2 H' s
  refine ⟨fun i d hd => ?_, fun i hi => ⟨vs, us, h1, h2, by rw [← r.len, ← r2.len]; exact zipD_len hi⟩⟩
  obtain ⟨d0, e0, hd0, he0, rfl⟩ := zipD_get hd
  obtain ⟨v, hv, rv⟩ := reps_get r hd0
  obtain ⟨u, hu, ru⟩ := reps_get r2 he0
  refine ⟨⟨vs, us, v, u, h1, h2, hv, hu⟩, fun x H2 y => ?_⟩
  obtain ⟨t, x2, y2, rfl, hn, rfl, ya, yb⟩ := y
  have ha := ya vs h1
  rw [hv] at ha
  cases ha
  have hb := yb us h2
  rw [hu] at hb
  cases hb
  refine ⟨.node hn, q.node hn, t, _, rfl, .inl ⟨q.new hn, .inl upd_same⟩, ?_⟩
  exact ⟨_, _, rfl, Rep.mono (s.trans (.node hn)) _ _ rv, _, _, rfl, Rep.mono (s.trans (.node hn)) _ _ ru, rfl⟩
theorem iter_zT {T : Tb} {w : Wd} {H : Hp} {a b : Addr} {vs us : List V} {ds es : List D} (hs : ∀ w2 H', Step w H w2 H' → SqT T.K H' a vs) (hs2 : ∀ w2 H', Step w H w2 H' → SqT T.K H' b us) (r : Reps T w H ds vs) (r2 : Reps T w H es us) : IterOk T w H (.fix (zipD ds es)) (ItzT T.K a b) := by
  intro w2 H' st s q
  have h1 := hs w2 H' s
  have h2 := hs2 w2 H' s
  refine ⟨fun i d hd => ?_, fun i hi => ⟨vs, us, h1, h2, by rw [← r.len, ← r2.len]; exact zipD_len hi⟩⟩
  obtain ⟨d0, e0, hd0, he0, rfl⟩ := zipD_get hd
  obtain ⟨v, hv, rv⟩ := reps_get r hd0
  obtain ⟨u, hu, ru⟩ := reps_get r2 he0
  refine ⟨⟨vs, us, v, u, h1, h2, hv, hu⟩, fun x H2 y => ?_⟩
  obtain ⟨t, x2, y2, rfl, hn, rfl, ya, yb⟩ := y
  have ha := ya vs h1
  rw [hv] at ha
  cases ha
  have hb := yb us h2
  rw [hu] at hb
  cases hb
  refine ⟨.node hn, q.node hn, t, _, rfl, .inl ⟨q.new hn, .inl upd_same⟩, ?_⟩
  exact ⟨_, _, rfl, Rep.mono (s.trans (.node hn)) _ _ rv, _, _, rfl, Rep.mono (s.trans (.node hn)) _ _ ru, rfl⟩
theorem di_zip {elts : List Expr} {kk : Nat} {tpos p : Pos} {m : MA} (hm : G.mg "zip" = none) (hg : c.sc.names.lookup ("zip" : Str) = some .globalImplicit) (ha : DA G c k W [a, b] m)
    (hs : ∀ env, starEach [a, b] env = (false, eval a env) :: starEach [b] env := by intro _; rfl) (hpl : ∀ env, (backTo pos (starEach [b] env)).any (·.1) = false := by intro _; rfl) :
    DI G c k W (.Tuple elts kk tpos) (.Call (.Name "zip" p) [a, b] [] pos) (mZip m) := by
  obtain ⟨t, h1, h2⟩ := ha
  refine ⟨iZipA G.K t, fun X h => ?_, fun as H σ env st R e w h => ?_⟩
  · rw [← h.K]
    exact pi_zipA (h.gl hg) (by rw [h.mg]; exact hm) (h1 X h) (hs _) (hpl _)
  · refine h2 as H σ env st _ e w (Post.imp h fun ds st1 as1 H1 xs _ s1 w1 r1 h1 => ?_)
    unfold srcZip at h1
    split at h1
    · obtain ⟨v, u, rfl, rd, re⟩ := reps2 r1
      split at h1
      · rename_i xs ys hx hy
        obtain ⟨p1, vs, rfl, rr, l⟩ := fixL_rep rd hx
        obtain ⟨p2, us, rfl, rr2, l2⟩ := fixL_rep re hy
        exact ⟨p1, p2, vs, us, rfl, .inl ⟨l _ _ .refl, l2 _ _ .refl, h1 as1 H1 _ .refl w1 (iter_z l l2 rr rr2)⟩⟩
      · split at h1
        · obtain ⟨p1, vs, rfl, l, rr⟩ := rd
          obtain ⟨p2, us, rfl, l2, rr2⟩ := re
          exact ⟨p1, p2, vs, us, rfl, .inr ⟨l.sq, l2.sq, h1 as1 H1 _ .refl w1 (iter_zT (fun w2 H' s => (l.mono s).sq) (fun w2 H' s => (l2.mono s).sq) rr rr2)⟩⟩
        · exact h1.elim
    · exact h1.elim
end
end DL
end
section
set_option Elab.async false
set_option linter.all false
set_option maxRecDepth 100000
set_option maxHeartbeats 2000000
namespace DL
open PySem L2

/-! ### what is known of a def, from the facts of the top -/
section
variable {G : Gd}
theorem fd_mk {x qual : Str} {st : Stmt} {f : Addr} {fd : FuncData} {N ps : List Str} {k n : Nat} {ms : MS} (F : Fun G.K x qual st f fd) (hm : G.mg x = some (.ref f)) (S : FnScope N ps (defScope st)) (hn : ps.length = n)
    (hb : ∀ E : XK, DSs G (defCt N (defScope st)) k (fun _ => E) (defBody st) ms) (B : Binds G.K fd ps []) : Fd G x n (k + 1) [] (mDef N.length ms) :=
  ⟨f, fd, ps, [], fn_def F S hn hb, hm, F.kp, B, .nil⟩
theorem Fd.mono {x : Str} {n j k : Nat} {dvs : List V} {m : List D → Store → Res D} (F : Fd G x n j dvs m) (h : j ≤ k) : Fd G x n k dvs m := by
  obtain ⟨f, fd, ps, ds, F1, F2, F3, F4, F5⟩ := F.ex
  exact ⟨f, fd, ps, ds, F1.mono h, F2, F3, F4, F5⟩
/-- a def that calls itself: by its fuel -/
def mRec (n : Nat) (b : (List D → Store → Res D) → MS) : Nat → List D → Store → Res D
  | 0 => fun _ _ => .stuck
  | i + 1 => mDef n (b (mRec n b i))
theorem fd_rec {x qual : Str} {st : Stmt} {f : Addr} {fd : FuncData} {N ps : List Str} {k n : Nat} {b : (List D → Store → Res D) → MS} (F : Fun G.K x qual st f fd) (hm : G.mg x = some (.ref f)) (S : FnScope N ps (defScope st)) (hn : ps.length = n)
    (hb : ∀ i m, Fd G x n (k + i) [] m → ∀ E : XK, DSs G (defCt N (defScope st)) (k + i) (fun _ => E) (defBody st) (b m)) (B : Binds G.K fd ps []) : ∀ i, Fd G x n (k + i) [] (mRec N.length b i)
  | 0 => by
    refine ⟨f, fd, ps, [], ⟨fun vs H Q E h => by rw [hn]; exact h.len, fun A outer s H args us vs Q E hr he hb hv hs => ?_⟩, hm, F.kp, B, .nil⟩
    obtain ⟨w, st, ds, e, q, r, p⟩ := hs
    exact p.elim
  | i + 1 => fd_mk F hm S hn (hb i _ (fd_rec F hm S hn hb B i)) B
end
end DL
end
section
set_option Elab.async false
set_option linter.all false
set_option maxRecDepth 100000
set_option maxHeartbeats 2000000
namespace DL
open PySem L2

/-! ### an instance is made; a method is called -/
section
variable {X : Cx} {CX : CXT} {k : Nat} {f C : Addr} {fd : FuncData} {ps : List Str} {sp : Sp} {x m : Str} {p pos apos : Pos} {e o : Expr} {es : List Expr} {ta : TE} {t : TA}
/-- C(..), what an exception meets told by the slots -/
def tMk (C : Addr) (sp : Sp) (E : St → XK) (t : TA) : TE := fun σ H Q => t σ H fun vs H1 => ∀ x dx, H1 x = none → H1 dx = none → dx ≠ x →
  sp (.ref x :: vs) (upd (upd H1 dx (.own x)) x (.ins C dx [])) (fun v H2 => v = .non ∧ Q (.ref x) H2) (E σ)
theorem run_mk {E : XK} {pins : List (Addr × Obj)} {σ : St} {H : Hp} {s : Shared} {Q : VK} {us : List Value} {vs : List V} (M : Mk X.K C f) (F : FnOk X.prog X.w X.K X.mg X.base CX k f fd ps sp) (hr : Room (k + 1) X.A) (hb : Binds X.K fd ps [])
    (hx : PassesAt CX X σ E) (I : Inv X pins σ H s) (r : Vals vs us)
    (h : ∀ x dx, H x = none → H dx = none → dx ≠ x → sp (.ref x :: vs) (upd (upd H dx (.own x)) x (.ins C dx [])) (fun v H2 => v = .non ∧ Q (.ref x) H2) E) :
    wpAny (model X.prog X.w) X.A (call (.ref C) us) (EP X pins σ Q) X.xe s := by
  have fresh := I.hok.fresh (Nat.le_refl s.heap.objs.size)
  have fresh1 := I.hok.fresh (Nat.le_succ s.heap.objs.size)
  have q := h _ _ fresh1 fresh (Nat.ne_of_lt (Nat.lt_succ_self _))
  have J := Inv.made (C := C) I
  have rv : Vals (V.ref (s.heap.objs.size + 1) :: vs) (Value.ref (s.heap.objs.size + 1) :: us) := .cons rfl r
  have len : (Value.ref (s.heap.objs.size + 1) :: us ++ ([] : List Value)).length = ps.length := by
    rw [List.append_nil, ← rv.length]
    exact F.len _ _ _ _ q
  have bind := hb _ (Value.ref (s.heap.objs.size + 1) :: us) J.kIn len
  rw [List.append_nil] at bind
  have run := F.run _ X.stack _ _ _ _ _ _ E (hr.make C us []) (J.env0.make C us []) bind rv q
  refine wpAny_call (make_map (f := f) I.kIn M.makes M.init (beq_iff_eq.mp M.fn) (codeAny_mono run fun out s' got => ?_))
  match out, got with
  | .error e, got => exact hx pins _ _ e s' J got
  | .ok (.ret u), got =>
    obtain ⟨v, H', I3, ru, ev, done⟩ := J.after got
    subst ev
    exact ⟨ru, .ref (s.heap.objs.size + 1), H', I3, rfl, done⟩
  | .ok .next, got => exact got.elim
  | .ok .brk, got => exact got.elim
  | .ok .cont, got => exact got.elim
theorem pe_mk {E : St → XK} (M : Mk X.K C f) (F : FnOk X.prog X.w X.K X.mg X.base CX k f fd ps sp) (hr : Room (k + 1) X.A) (hg : Gl X x) (hm : X.mg x = some (.ref C)) (hb : Binds X.K fd ps []) (hx : ∀ σ, PassesAt CX X σ (E σ))
    (ha : PA X (e :: es) t) (hdb : (x == ("__debug__" : Str)) = false := by decide) (he : starEach (e :: es) X.env = (false, eval e X.env) :: starEach es X.env := by rfl) (hpl : (backTo pos (starEach es X.env)).any (·.1) = false := by rfl) :
    PE X (.Call (.Name x p) (e :: es) [] pos) (tMk C sp E t) := ⟨fun pins s σ H Q I h =>
  wpAny_Call_Name_kw (ld_glob I hg hm (PySem.W.callWith_K (h₀ := X.base) I.ok.mod.kin M.kp (thn (ha.run pos pins s σ H _ I h) fun us s1 ⟨vs, H1, I1, r, q⟩ => ⟨I1.kIn, run_mk M F hr hb (hx σ) I1 r q⟩) he hpl) hdb)⟩
theorem pe_mk0 {E : St → XK} (M : Mk X.K C f) (F : FnOk X.prog X.w X.K X.mg X.base CX k f fd ps sp) (hr : Room (k + 1) X.A) (hg : Gl X x) (hm : X.mg x = some (.ref C)) (hb : Binds X.K fd ps []) (hx : ∀ σ, PassesAt CX X σ (E σ))
    (hdb : (x == ("__debug__" : Str)) = false := by decide) : PE X (.Call (.Name x p) [] [] pos) (tMk C sp E tNil) := ⟨fun pins s σ H Q I h =>
  wpAny_Call_Name_kw (ld_glob I hg hm (PySem.W.callWith_K0 I.kIn M.kp (run_mk (us := []) M F hr hb (hx σ) I .nil h)) hdb)⟩
/-- o.m(..) of an instance of C -/
def tMt (C : Addr) (m : Str) (sp : Sp) (E : St → XK) (ta : TE) (t : TA) : TE := fun σ H Q => ta σ H fun x H1 => ∃ a dx fs, x = .ref a ∧ H1 a = some (.ins C dx fs) ∧ fs.lookup m = none ∧
  t σ H1 fun vs H2 => sp (x :: vs) H2 Q (E σ)
theorem pe_mt {E : St → XK} {pl : Sem Bool} (he : PE X o ta) (c : Cls X.K C) (hm : Meth X.K C m f) (F : FnOk X.prog X.w X.K X.mg X.base CX k f fd ps sp) (hr : Room k X.A) (hb : Binds X.K fd ps []) (hx : ∀ σ, PassesAt CX X σ (E σ)) (ha : PA X (e :: es) t)
    (hst : starEach (e :: es) X.env = (false, eval e X.env) :: starEach es X.env := by rfl) (hpl : (backTo pos (starEach es X.env)).any (·.1) = false := by rfl)
    (ht : eval (.Call (.Attribute o m apos) (e :: es) [] pos) X.env = (do
      let ov ← eval o X.env
      standAt apos.atName
      let (f, first) ← holding [ov] (getMethod ov m pl)
      callWith pos f first (backTo pos (starEach (e :: es) X.env)) (backToKw pos (keywordEach [] X.env))) := by rfl) :
    PE X (.Call (.Attribute o m apos) (e :: es) [] pos) (tMt C m sp E ta t) := by
  refine ⟨fun pins s σ H Q I h => PySem.W.methodCall_KW (pl := pl) (thn (he.run pins s σ H _ I h) fun u s1 ⟨x, H1, I1, rx, a, dx, fs, ex, ea, l, q⟩ => ?_) ht⟩
  subst ex
  obtain rfl : u = Value.ref a := rx
  refine getmeth_ok I1 ea c hm l (PySem.W.callWith_K (first := [.ref a]) I1.kIn hm.kp (thn (ha.run pos pins s1 σ H1 _ I1 q) fun us s2 ⟨vs, H2, I2, r, q2⟩ => ⟨I2.kIn, ?_⟩) hst hpl)
  exact run_fnSD (us := .ref a :: us) (vs := .ref a :: vs) (dvs := []) F hr hb .nil (hx σ) I2 (.cons rfl r) (by rw [List.append_nil]; exact q2)
theorem pe_mt0 {E : St → XK} {pl : Sem Bool} (he : PE X o ta) (c : Cls X.K C) (hm : Meth X.K C m f) (F : FnOk X.prog X.w X.K X.mg X.base CX k f fd ps sp) (hr : Room k X.A) (hb : Binds X.K fd ps []) (hx : ∀ σ, PassesAt CX X σ (E σ))
    (ht : eval (.Call (.Attribute o m apos) [] [] pos) X.env = (do
      let ov ← eval o X.env
      standAt apos.atName
      let (f, first) ← holding [ov] (getMethod ov m pl)
      callWith pos f first (backTo pos (starEach [] X.env)) (backToKw pos (keywordEach [] X.env))) := by rfl) :
    PE X (.Call (.Attribute o m apos) [] [] pos) (tMt C m sp E ta tNil) := by
  refine ⟨fun pins s σ H Q I h => PySem.W.methodCall_KW (pl := pl) (thn (he.run pins s σ H _ I h) fun u s1 ⟨x, H1, I1, rx, a, dx, fs, ex, ea, l, q⟩ => ?_) ht⟩
  subst ex
  obtain rfl : u = Value.ref a := rx
  exact getmeth_ok I1 ea c hm l (PySem.W.callWith_K0 (first := [.ref a]) I1.kIn hm.kp (run_fnSD (us := [.ref a]) (vs := [.ref a]) (dvs := []) F hr hb .nil (hx σ) I1 (.cons rfl .nil) q))
end

/-! ### in mirrors -/
/-- a def that is no global's: __init__, a method -/
structure Fm (G : Gd) (f : Addr) (n j : Nat) (m : List D → Store → Res D) : Prop where
  ex : ∃ (fd : FuncData) (ps : List Str), FnOk G.P G.w G.K G.mg G.base (L2N.CX G.P G.w) j f fd ps (SpD G.T n m) ∧ Binds G.K fd ps []
/-- how an own class is made: its name, its __init__ -/
structure Km (G : Gd) (x : Str) (c n j : Nat) (m : List D → Store → Res D) : Prop where
  ex : ∃ f, Mk G.K (G.C c) f ∧ G.mg x = some (.ref (G.C c)) ∧ Fm G f (n + 1) j m
def dMake (c : Nat) (m : List D → Store → Res D) (ds : List D) (st : Store) : Res D := (m (.box st.length :: ds) (st ++ [.ins c []])).bind fun r st2 => match r with
  | .non => .ok (.box st.length) st2
  | _ => .stuck
section
variable {G : Gd} {ct : Ct} {k j n cn : Nat} {W : St → XK} {c : Nat}
theorem sim_mk {m : List D → Store → Res D} {t : TA} {ma : MA} (hl : ∀ env st ds st', ma env st = .ok ds st' → ds.length = n) (ha : SimA G.T W t ma) : SimE G.T W (tMk (G.C c) (SpD G.T (n + 1) m) W t) (mCall (dMake c m) ma) := fun as H σ env st Q e w h =>
  ha as H σ env st _ e w (Post.imp h fun ds st1 w1 H1 xs hok s1 q1 r1 h1 => by
    intro x dx nx nd ne
    have s2 : Step w1 H1 w1 (upd H1 dx (.own x)) := .node nd
    have q2 : WH G.T w1 (upd H1 dx (.own x)) st1 := q1.node nd
    have nx2 : upd H1 dx (.own x) x = none := by rw [upd_ne (Ne.symm ne)]; exact nx
    have s3 : Step w1 (upd H1 dx (.own x)) (w1.add x) (upd (upd H1 dx (.own x)) x (.ins (G.C c) dx [])) := .obj nx2
    have q3 : WH G.T (w1.add x) (upd (upd H1 dx (.own x)) x (.ins (G.C c) dx [])) (st1 ++ [.ins c []]) := q2.obj nx2 ⟨dx, [], upd_same, rfl⟩ rfl
    have s4 := s2.trans s3
    have at_ : (w1.add x).as[st1.length]? = some x := by
      show (w1.as ++ [x])[st1.length]? = some x
      rw [← q1.len, List.getElem?_append_right (Nat.le_refl _), Nat.sub_self]
      rfl
    refine ⟨w1.add x, st1 ++ [.ins c []], .box st1.length :: ds, by rw [List.length_cons, hl env st ds st1 hok], q3, ⟨.ref x, xs, rfl, ⟨x, rfl, at_⟩, Reps.mono s4 _ _ r1⟩, ?_⟩
    unfold dMake at h1
    refine Post.imp (Post.mono s4 h1) fun r st2 w2 H2 v _ s5 q5 r5 h5 => ?_
    cases r with
    | non => exact ⟨r5, h5 w2 H2 _ .refl q5 ⟨x, rfl, s5.kp.mu _ _ at_⟩⟩
    | _ => exact h5.elim)
variable {x : Str} {p pos apos : Pos} {e o : Expr} {es : List Expr} {m : List D → Store → Res D} {ma : MA} {mo : ME}
theorem In.fnOk {W : St → XK} {X : Cx} (h : In G ct k W X) {f : Addr} {fd : FuncData} {ps : List Str} {sp : Sp} (F : FnOk G.P G.w G.K G.mg G.base (L2N.CX G.P G.w) j f fd ps sp) : FnOk X.prog X.w X.K X.mg X.base (L2N.CX X.prog X.w) j f fd ps sp := by
  rw [h.prog, h.wd, h.K, h.mg, h.base]; exact F
theorem de_make (F : Km G x c n j m) (hj : j + 1 ≤ k) (hg : ct.sc.names.lookup x = some .globalImplicit) (ha : DA G ct k W (e :: es) ma) (hl : ArgN ma n)
    (hdb : (x == ("__debug__" : Str)) = false := by decide) (he : ∀ env, starEach (e :: es) env = (false, eval e env) :: starEach es env := by intro _; rfl) (hpl : ∀ env, (backTo pos (starEach es env)).any (·.1) = false := by intro _; rfl) :
    DE G ct k W (.Call (.Name x p) (e :: es) [] pos) (mCall (dMake c m) ma) := by
  obtain ⟨f, M, hm, ⟨fd, ps, F1, F2⟩⟩ := F.ex
  obtain ⟨t, h1, h2⟩ := ha
  refine ⟨tMk (G.C c) (SpD G.T (n + 1) m) W t, fun X h => ?_, sim_mk hl.len h2⟩
  exact pe_mk (by rw [h.K]; exact M) (h.fnOk F1) (h.room.mono hj) (h.gl hg) (by rw [h.mg]; exact hm) (by rw [h.K]; exact F2) (fun σ => L2N.passAt h.tk σ) (h1 X h) hdb (he _) (hpl _)
theorem de_make0 (F : Km G x c 0 j m) (hj : j + 1 ≤ k) (hg : ct.sc.names.lookup x = some .globalImplicit) (hdb : (x == ("__debug__" : Str)) = false := by decide) : DE G ct k W (.Call (.Name x p) [] [] pos) (mCall (dMake c m) mNil) := by
  obtain ⟨f, M, hm, ⟨fd, ps, F1, F2⟩⟩ := F.ex
  refine ⟨tMk (G.C c) (SpD G.T (0 + 1) m) W tNil, fun X h => ?_, sim_mk (ArgN.nil).len sim_nil⟩
  exact pe_mk0 (by rw [h.K]; exact M) (h.fnOk F1) (h.room.mono hj) (h.gl hg) (by rw [h.mg]; exact hm) (by rw [h.K]; exact F2) (fun σ => L2N.passAt h.tk σ) hdb
/-- the method z of the class c -/
structure Mt (G : Gd) (c : Nat) (z : Str) (n j : Nat) (m : List D → Store → Res D) : Prop where
  ex : ∃ f, Meth G.K (G.C c) z f ∧ Fm G f (n + 1) j m
def mMeth (c : Nat) (z : Str) (m : List D → Store → Res D) (mo : ME) (ma : MA) : ME := fun env st => (mo env st).bind fun d st1 => match fv st1 d with
  | some (c2, fs) => if c2 = c ∧ fs.lookup z = none then (ma env st1).bind fun ds st2 => m (d :: ds) st2 else .stuck
  | none => .stuck
theorem repF_none {T : Tb} {w : Wd} {H : Hp} {f : Str} : ∀ {fs : List (Str × D)} {ws : List (Str × V)}, RepF T w H fs ws → fs.lookup f = none → ws.lookup f = none
  | [], ws, r, _ => by rw [show ws = [] from r]; rfl
  | (g, x) :: fs, ws, r, h => by
    obtain ⟨v, q, rfl, r1, r2⟩ := r
    rw [List.lookup_cons] at h
    rw [List.lookup_cons]
    cases c : f == g with
    | true => rw [c] at h; cases h
    | false =>
      rw [c] at h
      exact repF_none r2 h
theorem sim_mt {z : Str} {m : List D → Store → Res D} {t : TE} {u : TA} {mo : ME} {ma : MA} (hl : ∀ env st ds st', ma env st = .ok ds st' → ds.length = n) (h1 : SimE G.T W t mo) (ha : SimA G.T W u ma) :
    SimE G.T W (tMt (G.C c) z (SpD G.T (n + 1) m) W t u) (mMeth c z m mo ma) := fun as H σ env st Q e w h =>
  h1 as H σ env st _ e w (Post.imp h fun d st1 w1 H1 x _ s1 q1 r1 h2 => by
    split at h2
    · rename_i c2 fs hf
      split at h2
      · rename_i hc
        obtain ⟨a, dx, ws, rfl, e1, rr⟩ := fv_rep q1 r1 hf
        obtain ⟨rfl, hn⟩ := hc
        refine ⟨a, dx, ws, rfl, e1, repF_none rr hn, ?_⟩
        refine ha w1 H1 σ env st1 _ (e.mono s1) q1 (Post.imp h2 fun ds st2 w2 H2 xs hok s2 q2 r2 h3 => ?_)
        exact ⟨w2, st2, d :: ds, by rw [List.length_cons, hl env st1 ds st2 hok], q2, ⟨.ref a, xs, rfl, Rep.mono s2 _ _ r1, r2⟩, h3⟩
      · exact h2.elim
    · exact h2.elim)
theorem de_meth {z : Str} {J : Nat → Nat → Bool} (K : Kf G cn J) (hc : c < cn) (F : Mt G c z n j m) (hj : j ≤ k) (ho : DE G ct k W o mo) (ha : DA G ct k W (e :: es) ma) (hl : ArgN ma n)
    (hst : ∀ env, starEach (e :: es) env = (false, eval e env) :: starEach es env := by intro _; rfl) (hpl : ∀ env, (backTo pos (starEach es env)).any (·.1) = false := by intro _; rfl) {pl : Env → Sem Bool}
    (ht : ∀ env, eval (.Call (.Attribute o z apos) (e :: es) [] pos) env = (do
      let ov ← eval o env
      standAt apos.atName
      let (f, first) ← holding [ov] (getMethod ov z (pl env))
      callWith pos f first (backTo pos (starEach (e :: es) env)) (backToKw pos (keywordEach [] env))) := by intro _; rfl) :
    DE G ct k W (.Call (.Attribute o z apos) (e :: es) [] pos) (mMeth c z m mo ma) := by
  obtain ⟨f, M, ⟨fd, ps, F1, F2⟩⟩ := F.ex
  obtain ⟨t, h1, h2⟩ := ho
  obtain ⟨u, h3, h4⟩ := ha
  refine ⟨tMt (G.C c) z (SpD G.T (n + 1) m) W t u, fun X h => ?_, sim_mt hl.len h2 h4⟩
  exact pe_mt (pl := pl X.env) (h1 X h) (by rw [h.K]; exact K.cl c hc) (by rw [h.K]; exact M) (h.fnOk F1) (h.room.mono hj) (by rw [h.K]; exact F2) (fun σ => L2N.passAt h.tk σ) (h3 X h) (hst _) (hpl _) (ht _)
theorem de_meth0 {z : Str} {J : Nat → Nat → Bool} (K : Kf G cn J) (hc : c < cn) (F : Mt G c z 0 j m) (hj : j ≤ k) (ho : DE G ct k W o mo) {pl : Env → Sem Bool}
    (ht : ∀ env, eval (.Call (.Attribute o z apos) [] [] pos) env = (do
      let ov ← eval o env
      standAt apos.atName
      let (f, first) ← holding [ov] (getMethod ov z (pl env))
      callWith pos f first (backTo pos (starEach [] env)) (backToKw pos (keywordEach [] env))) := by intro _; rfl) :
    DE G ct k W (.Call (.Attribute o z apos) [] [] pos) (mMeth c z m mo mNil) := by
  obtain ⟨f, M, ⟨fd, ps, F1, F2⟩⟩ := F.ex
  obtain ⟨t, h1, h2⟩ := ho
  refine ⟨tMt (G.C c) z (SpD G.T (0 + 1) m) W t tNil, fun X h => ?_, sim_mt (ArgN.nil).len h2 sim_nil⟩
  exact pe_mt0 (pl := pl X.env) (h1 X h) (by rw [h.K]; exact K.cl c hc) (by rw [h.K]; exact M) (h.fnOk F1) (h.room.mono hj) (by rw [h.K]; exact F2) (fun σ => L2N.passAt h.tk σ) (ht _)
end
end DL
end
section
set_option Elab.async false
set_option linter.all false
set_option maxRecDepth 100000
set_option maxHeartbeats 2000000
namespace DL
open PySem L2

/-! ### setdefault, dict(..) -/
section
variable {G : Gd} {c : Ct} {k : Nat} {W : St → XK} {o e f : Expr} {mo mi mf : ME}
def dSetd (d y z : D) (st : Store) : Res D := match d, keyOf y with
  | .box j, some q => match st[j]? with
    | some (.dic kvs) => match valD kvs q with
      | some x => if kvs.length < lim then .ok x st else .stuck
      | none => if kvs.length < lim ∧ z.low j = true then .ok z (st.set j (.dic (putD kvs q z))) else .stuck
    | _ => .stuck
  | _, _ => .stuck
def mSetd (mo mi mf : ME) : ME := fun env st => (mo env st).bind fun d st1 => match dv st1 d with
  | none => .stuck
  | some _ => (mi env st1).bind fun y st2 => (mf env st2).bind fun z st3 => dSetd d y z st3
theorem de_setd {apos cpos : Pos} (ho : DE G c k W o mo) (he : DE G c k W e mi) (hf : DE G c k W f mf)
    (hbase : ∀ env, attributeBase o "setdefault" env (eval o env) = eval o env := by intro _; rfl)
    (hfew : ∀ env, ((backTo cpos (starEach [e, f] env)).all (fun x => !x.1) && (backToKw cpos (keywordEach [] env)).all (fun x => x.1.isSome)
      && decide (([e, f] : List Expr).length + ([] : List Keyword).length + (if ([] : List Keyword).isEmpty then 0 else 1) < 30)) = true := by intro _; rfl)
    (hline : (apos.endLine == cpos.line) = true := by rfl) (ht : ∀ env, backTo cpos (starEach [e, f] env) = [(false, eval e env), (false, eval f env)] := by intro _; rfl) :
    DE G c k W (.Call (.Attribute o "setdefault" apos) [e, f] [] cpos) (mSetd mo mi mf) := by
  obtain ⟨t, h1, h2⟩ := ho
  obtain ⟨u, h3, h4⟩ := he
  obtain ⟨v, h5, h6⟩ := hf
  refine ⟨tDSetd t u v, fun X h => pe_dsetd (h1 X h) (h3 X h) (h5 X h) ⟨hbase _, hfew _, hline, ht _⟩, fun as H σ env st Q e w h => ?_⟩
  refine h2 as H σ env st _ e w (Post.imp h fun d st1 w1 H1 x _ s1 q1 r1 h1 => ?_)
  split at h1
  · exact h1.elim
  · rename_i kv0 hk0
    obtain ⟨p, ws, rfl, e1, rr⟩ := dv_rep q1 r1 hk0
    refine ⟨p, rfl, .inl ⟨ws, e1⟩, ?_⟩
    refine h4 w1 H1 σ env st1 _ (e.mono s1) q1 (Post.imp h1 fun y st2 w2 H2 yv _ s2 q2 r2 h2 => ?_)
    refine h6 w2 H2 σ env st2 _ (e.mono (s1.trans s2)) q2 (Post.imp h2 fun z st3 w3 H3 zv _ s3 q3 r3 h3 => ?_)
    have rd := Rep.mono (s2.trans s3) _ _ r1
    have ry := Rep.mono s3 _ _ r2
    unfold dSetd at h3
    split at h3
    · have hq := ‹keyOf y = some _›
      obtain ⟨a, ea, ha2⟩ := rd
      cases ea
      split at h3
      · rename_i kvs hz
        obtain ⟨ws2, e2, rr2⟩ := q3.obs _ _ _ ha2 hz
        have hm : p ∈ w3.as := List.mem_iff_getElem?.mpr ⟨_, ha2⟩
        have lz := q3.ord _ _ hz
        obtain ⟨k1, k2⟩ := repK_val (k := _) rr2
        split at h3
        · rename_i x0 hx0
          split at h3
          · rename_i hc
            obtain ⟨v0, e3, rv⟩ := k1 x0 hx0
            refine ⟨ws2, _, e2, key_rep ry hq, by rw [← rr2.len]; exact Nat.lt_of_lt_of_le hc lim_le, fun v9 hv9 => ?_, fun hn => ?_⟩
            · rw [e3] at hv9; cases hv9
              exact h3 w3 H3 _ .refl q3 rv
            · rw [e3] at hn; cases hn
          · exact h3.elim
        · rename_i hx0
          split at h3
          · rename_i hc
            have e3 := k2 hx0
            refine ⟨ws2, _, e2, key_rep ry hq, by rw [← rr2.len]; exact Nat.lt_of_lt_of_le hc.1 lim_le, fun v9 hv9 => ?_, fun hn => ?_⟩
            · rw [e3] at hv9; cases hv9
            · exact h3 w3 _ _ (.put hm) (q3.put ha2 ⟨_, upd_same, RepK.mono (.put hm) _ _ (rr2.put r3)⟩ (lowK_put hc.2 lz)) (Rep.mono (.put hm) _ _ r3)
          · exact h3.elim
      · exact h3.elim
    · exact h3.elim
/-- dict(xs): of a dict, of a list of pairs -/
def pairsD : List D → Option (List (Key × D))
  | [] => some []
  | .tup [a, b] :: r => match keyOf a with
    | some q => (pairsD r).map ((q, b) :: ·)
    | none => none
  | _ :: _ => none
def mergeD (kvs more : List (Key × D)) : List (Key × D) := more.foldl (fun acc kv => putD acc kv.1 kv.2) kvs
def okDic (kvs : List (Key × D)) (st : Store) : Res D := if D.lowK st.length kvs = true then .ok (.box st.length) (st ++ [.dic kvs]) else .stuck
def bDict (ds : List D) (st : Store) : Res D := match ds with
  | [d] => match dv st d with
    | some kvs => okDic kvs st
    | none => match vw st d with
      | some (true, xs) => match pairsD xs with
        | some kvs => okDic (mergeD [] kvs) st
        | none => .stuck
      | _ => .stuck
  | _ => .stuck
theorem pairsD_rep {T : Tb} {w : Wd} {H : Hp} : ∀ {ds : List D} {vs : List V} {kvs : List (Key × D)}, Reps T w H ds vs → pairsD ds = some kvs →
    ∃ (ps : List Addr) (ws : List (Key × V)), vs = ps.map V.ref ∧ RepK T w H kvs ws ∧ Paired (fun p kv => SqT T.K H p [kV kv.1, kv.2]) ps ws
  | [], vs, kvs, r, h => by
    rw [show vs = [] from r]
    cases h
    exact ⟨[], [], rfl, rfl, .nil⟩
  | d :: ds, vs, kvs, r, h => by
    obtain ⟨v, q, rfl, r1, r2⟩ := r
    unfold pairsD at h
    split at h
    · rename_i h0; cases h0
    · rename_i a b r0 h0
      cases h0
      split at h
      · rename_i kk hk
        obtain ⟨kvs2, h2, rfl⟩ := Option.map_eq_some_iff.mp h
        obtain ⟨ps, ws, rfl, i1, i2⟩ := pairsD_rep r2 h2
        obtain ⟨p, us, rfl, l, ru⟩ := r1
        obtain ⟨u1, u2, rfl, ra, rb⟩ := reps2 ru
        have ek := key_rep ra hk
        subst ek
        exact ⟨p :: ps, (kk, u2) :: ws, rfl, ⟨u2, ws, rfl, rb, i1⟩, .cons l.sq i2⟩
      · cases h
    · cases h
theorem mergeD_rep {T : Tb} {w : Wd} {H : Hp} : ∀ {more : List (Key × D)} {ms : List (Key × V)} {kvs : List (Key × D)} {ws : List (Key × V)}, RepK T w H more ms → RepK T w H kvs ws → RepK T w H (mergeD kvs more) (mergeK ws ms)
  | [], ms, kvs, ws, r, h => by rw [show ms = [] from r]; exact h
  | (q, d) :: more, ms, kvs, ws, r, h => by
    obtain ⟨v, x, rfl, r1, r2⟩ := r
    exact mergeD_rep (more := more) (kvs := putD kvs q d) (ws := putK ws q v) r2 (h.put r1)
theorem post_dic {T : Tb} {E : XK} {as : Wd} {H : Hp} {kvs : List (Key × D)} {ws : List (Key × V)} {st : Store} {Q : VK} (r : RepK T as H kvs ws) (w : WH T as H st) (h : Post T (Rep T) as H (okDic kvs st) Q E) : ∀ p, H p = none → Q (.ref p) (upd H p (.dK ws)) := by
  unfold okDic at h
  split at h
  · rename_i hl
    refine fun p hp => h (as.add p) _ _ (.obj hp) (w.obj hp ⟨ws, upd_same, RepK.mono (.obj hp) _ _ r⟩ hl) ⟨p, rfl, ?_⟩
    show (as.as ++ [p])[st.length]? = some p
    rw [← w.len, List.getElem?_append_right (Nat.le_refl _), Nat.sub_self]
    rfl
  · exact h.elim
theorem db_dict : DB G W k (.type "dict") bDict := by
  refine ⟨fun xs H Q => (∃ (a : Addr) (kvs : List (Key × V)), xs = [.ref a] ∧ Rd H a (.dK kvs) ∧ ∀ p, H p = none → Q (.ref p) (upd H p (.dK kvs))) ∨
    ∃ (a : Addr) (ps : List Addr) (kvs : List (Key × V)), xs = [.ref a] ∧ SqL G.K H a (ps.map V.ref) ∧ Paired (fun p kv => SqT G.K H p [kV kv.1, kv.2]) ps kvs ∧ ∀ p, H p = none → Q (.ref p) (upd H p (.dK (mergeK [] kvs))), fun X _ _ hK hc _ => ?_, fun σ w H ds xs st Q r q h => ?_⟩
  · rw [← hK]
    exact CallR.or call_dictD (call_dictP hc)
  · unfold bDict at h
    split at h
    · rename_i d
      obtain ⟨v, rfl, rd⟩ := reps1 r
      split at h
      · rename_i kvs hd
        obtain ⟨p, ws, rfl, e1, rr⟩ := dv_rep q rd hd
        exact .inl ⟨p, ws, rfl, e1, post_dic rr q h⟩
      · split at h
        · rename_i ys hv
          split at h
          · rename_i kvs hz
            obtain ⟨p, vs, rfl, rr, l1, l2⟩ := vw_rep q rd hv
            obtain ⟨ps, ws, rfl, i1, i2⟩ := pairsD_rep rr hz
            exact .inr ⟨p, ps, ws, rfl, l1 rfl, i2, post_dic (mergeD_rep (kvs := []) (ws := []) i1 (show RepK G.T w H [] [] from rfl)) q h⟩
          · exact h.elim
        · exact h.elim
    · exact h.elim
end
end DL
end
section
set_option Elab.async false
set_option linter.all false
set_option maxRecDepth 100000
set_option maxHeartbeats 2000000
namespace DL
open PySem L2

/-! ### unary minus, constants of the top, max and min -/
section
variable {G : Gd} {c : Ct} {k : Nat} {W : St → XK} {a : Expr} {ma : ME} {pos : Pos}
def dNeg (d : D) (st : Store) : Res D := match d with
  | .int i => .ok (.int (-i)) st
  | _ => .stuck
theorem de_neg (ha : DE G c k W a ma) : DE G c k W (.UnaryOp .USub a pos) (mUn dNeg ma) := by
  obtain ⟨t, h1, h2⟩ := ha
  refine ⟨_, fun X h => pe_un un_neg (h1 X h), sim_un (fun σ w H d x st Q r q h => ?_) h2⟩
  unfold dNeg at h
  split at h
  · exact ⟨_, r, h w H _ .refl q rfl⟩
  · exact h.elim
/-- a name of the top that stands for a datum -/
structure Kc (G : Gd) (x : Str) (d : D) : Prop where
  ex : ∃ v u, G.mg x = some u ∧ RelV v u ∧ ∀ w H, Rep G.T w H d v
theorem de_con {x : Str} {d : D} (K : Kc G x d) (hg : c.sc.names.lookup x = some .globalImplicit) (hdb : (x == ("__debug__" : Str)) = false := by decide) : DE G c k W (.Name x pos) (mC d) := by
  obtain ⟨v, u, hm, r, hd⟩ := K.ex
  exact ⟨tC v, fun X h => pe_glob (h.gl hg) (by rw [h.mg]; exact hm) r hdb, sim_c hd⟩
def bMax (ds : List D) (st : Store) : Res D := match ds with
  | [.int i, .int j] => .ok (.int (if j > i then j else i)) st
  | [d] => match vw st d with
    | some (true, xs) => match D.ints xs with
      | some ns => match ns.max? with
        | some m => .ok (.int m) st
        | none => .stuck
      | none => .stuck
    | _ => .stuck
  | _ => .stuck
def bMin (ds : List D) (st : Store) : Res D := match ds with
  | [.int i, .int j] => .ok (.int (if j < i then j else i)) st
  | [d] => match vw st d with
    | some (true, xs) => match D.ints xs with
      | some ns => match ns.min? with
        | some m => .ok (.int m) st
        | none => .stuck
      | none => .stuck
    | _ => .stuck
  | _ => .stuck
theorem db_max : DB G W k (.builtin "max") bMax := by
  refine ⟨fun xs H Q => (∃ i j, xs = [.int i, .int j] ∧ Q (.int (if j > i then j else i)) H) ∨ rMax G.K xs H Q, fun X _ _ hK hc _ => ?_, fun σ w H ds xs st Q r q h => ?_⟩
  · rw [← hK]
    exact CallR.or (call_max2 hc) (cr_max hc)
  · unfold bMax at h
    split at h
    · obtain ⟨v, u, rfl, r1, r2⟩ := reps2 r
      exact .inl ⟨_, _, by rw [show v = _ from r1, show u = _ from r2], h w H _ .refl q rfl⟩
    · obtain ⟨v, rfl, rd⟩ := reps1 r
      split at h
      · rename_i ys hv
        split at h
        · rename_i ns hn
          split at h
          · rename_i m hm
            obtain ⟨p, vs, rfl, rr, l1, l2⟩ := vw_rep q rd hv
            have ev := reps_ints rr hn
            subst ev
            obtain ⟨m1, m2⟩ := List.max?_eq_some_iff.mp hm
            refine .inr ⟨p, ns, rfl, l1 rfl, List.length_pos_of_mem m1, fun m' h1 h2 => ?_⟩
            have e : m' = m := Int.le_antisymm (m2 m' h1) (h2 m m1)
            rw [e]
            exact h w H _ .refl q rfl
          · exact h.elim
        · exact h.elim
      · exact h.elim
    · exact h.elim
theorem db_min : DB G W k (.builtin "min") bMin := by
  refine ⟨fun xs H Q => (∃ i j, xs = [.int i, .int j] ∧ Q (.int (if j < i then j else i)) H) ∨ rMin G.K xs H Q, fun X _ _ hK hc _ => ?_, fun σ w H ds xs st Q r q h => ?_⟩
  · rw [← hK]
    exact CallR.or (call_min2 hc) (cr_min hc)
  · unfold bMin at h
    split at h
    · obtain ⟨v, u, rfl, r1, r2⟩ := reps2 r
      exact .inl ⟨_, _, by rw [show v = _ from r1, show u = _ from r2], h w H _ .refl q rfl⟩
    · obtain ⟨v, rfl, rd⟩ := reps1 r
      split at h
      · rename_i ys hv
        split at h
        · rename_i ns hn
          split at h
          · rename_i m hm
            obtain ⟨p, vs, rfl, rr, l1, l2⟩ := vw_rep q rd hv
            have ev := reps_ints rr hn
            subst ev
            obtain ⟨m1, m2⟩ := List.min?_eq_some_iff.mp hm
            refine .inr ⟨p, ns, rfl, l1 rfl, List.length_pos_of_mem m1, fun m' h1 h2 => ?_⟩
            have e : m' = m := Int.le_antisymm (h2 m m1) (m2 m' h1)
            rw [e]
            exact h w H _ .refl q rfl
          · exact h.elim
        · exact h.elim
      · exact h.elim
    · exact h.elim
end
end DL
end
section
set_option Elab.async false
set_option linter.all false
set_option maxRecDepth 100000
set_option maxHeartbeats 2000000
namespace DL
open PySem L2

/-! ### a value's truth; the place of a thing; a text cut -/
section
variable {G : Gd} {c : Ct} {k j : Nat} {W : St → XK} {a o e : Expr} {ma mo me : ME} {pos apos : Pos}
def truD (st : Store) (d : D) : Option Bool := match vw st d with
  | some (_, ds) => some (!ds.isEmpty)
  | none => match d with
    | .non => some false
    | .bl b => some b
    | .int i => some (i != 0)
    | .str z => if z.length ≤ lim then some ((z.length : Int) != 0) else none
    | .box i => match st[i]? with
      | some (.dic kvs) => some (!kvs.isEmpty)
      | _ => none
    | _ => none
def mTru (a : ME) : MT := fun env st => (a env st).bind fun d st1 => match truD st1 d with
  | some b => .ok b st1
  | none => .stuck
theorem isEmpty_len {α β : Type} {xs : List α} {ys : List β} (h : xs.length = ys.length) : xs.isEmpty = ys.isEmpty := by
  cases xs <;> cases ys <;> first | rfl | (exact absurd h (by simp))
theorem tru_rep {T : Tb} {w : Wd} {H : Hp} {st : Store} {d : D} {v : V} {b : Bool} (q : WH T w H st) (r : Rep T w H d v) (h : truD st d = some b) : TruV T.K v H b := by
  unfold truD at h
  split at h
  · rename_i bb ds hv
    cases h
    obtain ⟨p, vs, rfl, rr, l⟩ := vw_or q r hv
    have e := isEmpty_len rr.len
    rcases l with l | l
    · exact .inl ⟨vs, l, by rw [e]⟩
    · exact .inr (.inl ⟨vs, l, by rw [e]⟩)
  · split at h
    · cases h; rw [show v = _ from r]; rfl
    · cases h; rw [show v = _ from r]; rfl
    · cases h; rw [show v = _ from r]; rfl
    · split at h
      · rename_i hz
        cases h
        rw [show v = _ from r]
        exact ⟨Nat.le_trans hz lim_le, rfl⟩
      · cases h
    · obtain ⟨p, rfl, hp⟩ := r
      split at h
      · rename_i kvs hz
        cases h
        obtain ⟨ws, e1, rr⟩ := q.obs _ p _ hp hz
        exact .inr (.inr ⟨ws, e1, by rw [isEmpty_len rr.len]⟩)
      · cases h
    · cases h
theorem dt_tru (ha : DE G c k W a ma) (he : ∀ env whole, isTrue a env whole = (do let v ← whole; standAt a.pos; holding [v] (truthy v)) := by intro _ _; rfl) : DT G c k W a (mTru ma) := by
  obtain ⟨t, h1, h2⟩ := ha
  refine ⟨fun σ H Q => t σ H fun x H' => ∃ b, TruV G.K x H' b ∧ Q b H', fun X h => ?_, fun as H σ env st Q e w h => ?_⟩
  · rw [← h.K]
    exact pt_truth (h1 X h) (he _)
  · refine h2 as H σ env st _ e w (Post.imp h fun d st1 w1 H1 x _ s1 q1 r1 h1 => ?_)
    split at h1
    · rename_i b hb
      exact ⟨b, tru_rep q1 r1 hb, h1 w1 H1 b .refl q1 rfl⟩
    · exact h1.elim
/-- l.index(y), of plain things -/
def dIndex (d : D) (vs : List D) (st : Store) : Res D := match vl st d, vs with
  | some ds, [y] => if y.flat = true ∧ ds.all D.flat = true then (match ds.findIdx? fun z => eqFlat z y with
    | some j => .ok (.int j) st
    | none => .stuck) else .stuck
  | _, _ => .stuck
theorem all_flat {T : Tb} {w : Wd} {H : Hp} : ∀ {ds : List D} {vs : List V}, Reps T w H ds vs → ds.all D.flat = true → vs.all flatV = true
  | [], vs, r, _ => by rw [show vs = [] from r]; rfl
  | e :: ds, vs, r, h => by
    obtain ⟨u, q, rfl, r1, r2⟩ := r
    rw [List.all_cons, Bool.and_eq_true] at h
    rw [List.all_cons, flat_v r1 h.1, all_flat r2 h.2]; rfl
theorem reps_get' {T : Tb} {w : Wd} {H : Hp} : ∀ {ds : List D} {vs : List V} {i : Nat} {v : V}, Reps T w H ds vs → vs[i]? = some v → ∃ d, ds[i]? = some d ∧ Rep T w H d v
  | [], vs, i, v, r, h => by rw [show vs = [] from r] at h; cases i <;> cases h
  | d :: ds, vs, 0, v, r, h => by
    obtain ⟨u, q, rfl, r1, r2⟩ := r
    have h' : some u = some v := h
    cases h'
    exact ⟨d, rfl, r1⟩
  | d :: ds, vs, i + 1, v, r, h => by
    obtain ⟨u, q, rfl, r1, r2⟩ := r
    have h' : q[i]? = some v := h
    exact reps_get' (ds := ds) r2 h'
theorem sm_index {T : Tb} {E : XK} : SimM T E (rIndex T.K) dIndex := fun w H d ds x xs st Q r1 r2 q h => by
  unfold dIndex at h
  split at h
  · rename_i zs y hv
    obtain ⟨p, vs, rfl, rr, hp⟩ := vl_rep q r1 hv
    obtain ⟨v, rfl, rv⟩ := reps1 r2
    split at h
    · rename_i hf
      split at h
      · rename_i j hj
        obtain ⟨hlt, hpj, hno⟩ := List.findIdx?_eq_some_iff_getElem.mp hj
        obtain ⟨z, hz, rz⟩ := reps_get rr (List.getElem?_eq_getElem hlt)
        have fl : ∀ d ∈ zs, d.flat = true := fun d hd => List.all_eq_true.mp hf.2 d hd
        refine ⟨p, vs, v, j, z, rfl, rfl, .inl (.inl hp), flat_v rv hf.1, all_flat rr hf.2, hz, ?_, fun m z' hm hz' => ?_, h w H _ .refl q rfl⟩
        · rw [eqFlat_v rz rv (fl _ (List.getElem_mem hlt)) hf.1]; exact hpj
        · obtain ⟨dm, hdm, rm⟩ := reps_get' rr hz'
          obtain ⟨hl2, he⟩ := List.getElem?_eq_some_iff.mp hdm
          have := hno m hm
          rw [he] at this
          rw [eqFlat_v rm rv (fl _ (by rw [← he]; exact List.getElem_mem hl2)) hf.1]
          simpa using this
      · exact h.elim
    · exact h.elim
  · exact h.elim
theorem de_index {es : List Expr} {m : MA} {cpos : Pos} (ho : DE G c k W o mo) (ha : DA G c k W (e :: es) m)
    (hbase : ∀ env, attributeBase o "index" env (eval o env) = eval o env := by intro _; rfl)
    (hfew : ∀ env, ((backTo cpos (starEach (e :: es) env)).all (fun x => !x.1) && (backToKw cpos (keywordEach [] env)).all (fun x => x.1.isSome)
      && decide ((e :: es).length + ([] : List Keyword).length + (if ([] : List Keyword).isEmpty then 0 else 1) < 30)) = true := by intro _; rfl)
    (hline : (apos.endLine == cpos.line) = true := by rfl) (hs : ∀ env, starEach (e :: es) env = (false, eval e env) :: starEach es env := by intro _; rfl) (hplain : ∀ env, (backTo cpos (starEach es env)).any (·.1) = false := by intro _; rfl) :
    DE G c k W (.Call (.Attribute o "index" apos) (e :: es) [] cpos) (mMethL dIndex mo m) := by
  obtain ⟨t, h1, h2⟩ := ho
  obtain ⟨u, h3, h4⟩ := ha
  refine ⟨tBM G.K "list" (rIndex G.K) t u, fun X h => ?_, sim_methL (fun _ => sm_index) h2 h4⟩
  rw [← h.K]
  exact pe_bm PySem.F.plainAttrs_list PySem.F.slot_list_index PySem.F.type_list_index mt_index (h1 X h) (h3 X h) (hbase _) (hfew _) hline (hs _) (hplain _)
/-- x.split(sep) -/
def dSplit (d e : D) (st : Store) : Res D := match d, e with
  | .str a, .str b => if (b.length == 0) = false ∧ a.length + 2 ≤ lim then .ok (.lst ((Txt.split a b).map .str)) st else .stuck
  | _, _ => .stuck
theorem de_split (ho : DE G c k W o mo) (he : DE G c k W e me) (hs : ∀ env, starEach [e] env = [(false, eval e env)] := by intro _; rfl) (hbase : ∀ env, attributeBase o "split" env (eval o env) = eval o env := by intro _; rfl)
    (hline : (apos.endLine == pos.line) = true := by rfl) : DE G c k W (.Call (.Attribute o "split" apos) [e] [] pos) (mMethS dSplit mo me) := by
  obtain ⟨t, h1, h2⟩ := ho
  obtain ⟨u, h3, h4⟩ := he
  refine ⟨tM1 (fun x xs H Q => ∃ a b, x = .str a ∧ xs = [.str b] ∧ (b.length == 0) = false ∧ a.length + 2 ≤ sizeLine ∧ rNewStrs (Txt.split a b) H Q) t u, fun X h => ?_, fun as H σ env st Q e w h => ?_⟩
  · exact pe_m1 PySem.F.slot_str_split PySem.F.type_str_split mt_split (h1 X h) (h3 X h) (hs _) (hbase _) hline
  · refine h2 as H σ env st _ e w (Post.imp h fun d st1 as1 H1 x _ s1 w1 r1 h1 => ?_)
    cases d with
    | str a =>
      refine ⟨⟨a, r1⟩, ?_⟩
      refine h4 as1 H1 σ env st1 _ (e.mono s1) w1 (Post.imp h1 fun d2 st2 as2 H2 y _ s2 w2 r2 h2 => ?_)
      cases d2 with
      | str b =>
        have h3 : Post G.T (Rep G.T) as2 H2 (if (b.length == 0) = false ∧ a.length + 2 ≤ lim then .ok (.lst ((Txt.split a b).map .str)) st2 else .stuck) Q (W σ) := h2
        split at h3
        · rename_i hl
          exact ⟨a, b, r1, by rw [show y = _ from r2], hl.1, Nat.le_trans hl.2 lim_le, fun p hp => h3 as2 _ _ (.node hp) (w2.node hp) ⟨p, _, rfl, ⟨w2.new hp, upd_same⟩, reps_of_strs _⟩⟩
        · exact h3.elim
      | _ => exact h2.elim
    | _ => exact h1.elim
/-- f() -/
theorem de_call0 {x : Str} {p : Pos} {m : List D → Store → Res D} (F : Fd G x 0 j [] m) (hj : j ≤ k) (hg : c.sc.names.lookup x = some .globalImplicit) (hdb : (x == ("__debug__" : Str)) = false := by decide) : DE G c k W (.Call (.Name x p) [] [] pos) (mCall m mNil) := by
  obtain ⟨f, fd, ps, ds, F1, F2, F3, F4, F5⟩ := F.ex
  refine ⟨tCallSD (SpD G.T 0 m) [] W tNil, fun X h => ⟨fun pins s σ H Q I q => ?_⟩, ?_⟩
  · have FX := h.fnOk F1
    refine wpAny_Call_Name_kw (ld_glob I (h.gl hg) (by rw [h.mg]; exact F2) ?_ hdb)
    exact PySem.W.callWith_K0 I.kIn (by rw [h.K]; exact F3) (run_fnSD (us := []) (vs := []) FX (h.room.mono hj) (by rw [h.K]; exact F4) F5 (L2N.passAt h.tk σ) I .nil q)
  · have q := sim_call (T := G.T) (W := W) (m := m) (n := 0) (dvs := []) (dds := []) (fun env st ds st' e => by simpa using (ArgN.nil).len env st ds st' e) (fun w H => rfl) sim_nil
    have e : (fun (ds : List D) st => m (ds ++ []) st) = m := by funext ds st; rw [List.append_nil]
    rw [e] at q
    exact q
end
end DL
end
section
set_option Elab.async false
set_option linter.all false
set_option maxRecDepth 100000
set_option maxHeartbeats 2000000
namespace DL
open PySem L2

/-! ### name = [..], the name read from within a comprehension -/
theorem sw_cell {elt : Expr} {gs : List Comprehension} {scope : Scope} {pos py : Pos} {y : Str} {l : Nat} {env : Env} (hy : env.scope.names.lookup y = some .cell) : swapsWith (.ListComp elt gs scope pos) (some (.Name y py)) l env = pure false := by
  have e : (env.kindOf y == some .local) = false := by
    unfold Env.kindOf
    rw [hy]
    rfl
  unfold swapsWith
  simp only [e, Bool.and_false, Bool.false_and]
section
variable {G : Gd} {c : Ct} {k : Nat} {W : St → XK} {m : ME} {pos : Pos}
theorem ds_setC {i : Nat} {x : Str} {pos' p2 : Pos} {elt : Expr} {gs : List Comprehension} {scope : Scope} (hi : c.N[i]? = some x) (hx : c.sc.names.lookup x = some .cell) (hf : c.fn x = true) (nd : c.N.Nodup) (he : DE G c k W (.ListComp elt gs scope p2) m) :
    DS G c k W (.Assign [.Name x pos'] (.ListComp elt gs scope p2) pos) (msSet i m) := by
  obtain ⟨t, h3, h4⟩ := he
  have hx' : c.sc.names.lookup x = some .local ∨ (c.sc.names.lookup x = some .cell ∧ c.fn x = true) := .inr ⟨hx, hf⟩
  exact ⟨_, fun X h => ps_set (by rw [h.N]; exact nd) (by rw [h.N]; exact hi) (loc_of h hx').1 (h3 X h) (sw_cell (by rw [h.sc]; exact hx)) (loc_of h hx').2, sims_set h4⟩
end
end DL
end
section
set_option Elab.async false
set_option linter.all false
set_option maxRecDepth 100000
set_option maxHeartbeats 2000000
namespace DL
open PySem L2

/-! ### l.insert(i, y), l.extend(ys) -/
theorem lows_take {n : Nat} : ∀ {xs : List D} {i : Nat}, D.lows n xs = true → D.lows n (xs.take i) = true
  | [], i, h => by cases i <;> rfl
  | x :: xs, 0, h => rfl
  | x :: xs, i + 1, h => by
    have h' : (D.low n x && D.lows n xs) = true := h
    rw [Bool.and_eq_true] at h'
    show (D.low n x && D.lows n (xs.take i)) = true
    rw [h'.1, lows_take h'.2]; rfl
theorem lows_drop {n : Nat} : ∀ {xs : List D} {i : Nat}, D.lows n xs = true → D.lows n (xs.drop i) = true
  | [], i, h => by cases i <;> rfl
  | x :: xs, 0, h => h
  | x :: xs, i + 1, h => by
    have h' : (D.low n x && D.lows n xs) = true := h
    rw [Bool.and_eq_true] at h'
    exact lows_drop (xs := xs) h'.2
def dInsert (d : D) (vs : List D) (st : Store) : Res D := match d, vs with
  | .box j, [.int i, x] => match st[j]? with
    | some (.lst ds) => if ds.length < lim ∧ x.low j = true ∧ 0 ≤ i ∧ i < 2 ^ 63 then .ok .non (st.set j (.lst (ds.take i.toNat ++ [x] ++ ds.drop i.toNat))) else .stuck
    | _ => .stuck
  | _, _ => .stuck
def rInsert : V → List V → Hp → VK → Prop := fun x vs H Q => ∃ (l : Addr) (xs : List V) (i : Int) (y : V), x = .ref l ∧ vs = [.int i, y] ∧ H l = some (.lst xs) ∧ xs.length < sizeLine ∧ 0 ≤ i ∧ i < 2 ^ 63 ∧
    Q .non (upd H l (.lst (xs.take i.toNat ++ [y] ++ xs.drop i.toNat)))
theorem sm_insert {T : Tb} {E : XK} : SimM T E rInsert dInsert := fun w H d ds x xs st Q r1 r2 q h => by
  unfold dInsert at h
  split at h
  · obtain ⟨a, rfl, ha⟩ := r1
    obtain ⟨u, v, rfl, ru, rv⟩ := reps2 r2
    split at h
    · rename_i zs hz
      split at h
      · rename_i hc
        obtain ⟨vs, e1, rr⟩ := q.obs _ a _ ha hz
        have hm : a ∈ w.as := List.mem_iff_getElem?.mpr ⟨_, ha⟩
        have lz := q.ord _ _ hz
        refine ⟨a, vs, _, v, rfl, by rw [show u = _ from ru], e1, by have := lim_lt; rw [← rr.len]; omega, hc.2.2.1, hc.2.2.2, ?_⟩
        refine h w _ _ (.put hm) (q.put ha ⟨_, upd_same, Reps.mono (.put hm) _ _ (reps_app (reps_snoc rv (reps_take _ rr)) (reps_drop _ rr))⟩ ?_) rfl
        exact lows_app (lows_app (lows_take lz) (by show (D.low _ _ && true) = true; rw [hc.2.1]; rfl)) (lows_drop lz)
      · exact h.elim
    · exact h.elim
  · exact h.elim
def dExtend (d : D) (vs : List D) (st : Store) : Res D := match d, vs with
  | .box j, [x] => match st[j]?, vl st x with
    | some (.lst ds), some es => if ds.length + es.length ≤ lim ∧ D.lows j es = true then .ok .non (st.set j (.lst (ds ++ es))) else .stuck
    | _, _ => .stuck
  | _, _ => .stuck
theorem sm_extend {T : Tb} {E : XK} : SimM T E rExtend dExtend := fun w H d ds x xs st Q r1 r2 q h => by
  unfold dExtend at h
  split at h
  · obtain ⟨a, rfl, ha⟩ := r1
    obtain ⟨v, rfl, rv⟩ := reps1 r2
    split at h
    · rename_i zs es hz he
      split at h
      · rename_i hc
        obtain ⟨vs, e1, rr⟩ := q.obs _ a _ ha hz
        obtain ⟨b, us, rfl, ru, e2⟩ := vl_rep q rv he
        have hm : a ∈ w.as := List.mem_iff_getElem?.mpr ⟨_, ha⟩
        have lz := q.ord _ _ hz
        refine ⟨a, b, vs, us, rfl, rfl, e1, e2, by rw [← rr.len, ← ru.len]; exact Nat.le_trans hc.1 lim_le, ?_⟩
        refine h w _ _ (.put hm) (q.put ha ⟨_, upd_same, Reps.mono (.put hm) _ _ (reps_app rr ru)⟩ (lows_app lz hc.2)) rfl
      · exact h.elim
    · exact h.elim
  · exact h.elim
section
variable {G : Gd} {c : Ct} {k : Nat} {W : St → XK} {o e : Expr} {es : List Expr} {mo : ME} {m : MA} {apos cpos : Pos}
theorem de_insert (ho : DE G c k W o mo) (ha : DA G c k W (e :: es) m)
    (hbase : ∀ env, attributeBase o "insert" env (eval o env) = eval o env := by intro _; rfl)
    (hfew : ∀ env, ((backTo cpos (starEach (e :: es) env)).all (fun x => !x.1) && (backToKw cpos (keywordEach [] env)).all (fun x => x.1.isSome)
      && decide ((e :: es).length + ([] : List Keyword).length + (if ([] : List Keyword).isEmpty then 0 else 1) < 30)) = true := by intro _; rfl)
    (hline : (apos.endLine == cpos.line) = true := by rfl) (hs : ∀ env, starEach (e :: es) env = (false, eval e env) :: starEach es env := by intro _; rfl) (hplain : ∀ env, (backTo cpos (starEach es env)).any (·.1) = false := by intro _; rfl) :
    DE G c k W (.Call (.Attribute o "insert" apos) (e :: es) [] cpos) (mMethL dInsert mo m) := by
  obtain ⟨t, h1, h2⟩ := ho
  obtain ⟨u, h3, h4⟩ := ha
  refine ⟨tBM G.K "list" rInsert t u, fun X h => ?_, sim_methL (fun _ => sm_insert) h2 h4⟩
  rw [← h.K]
  exact pe_bm PySem.F.plainAttrs_list PySem.F.slot_list_insert PySem.F.type_list_insert mt_insert (h1 X h) (h3 X h) (hbase _) (hfew _) hline (hs _) (hplain _)
theorem de_extend (ho : DE G c k W o mo) (ha : DA G c k W (e :: es) m)
    (hbase : ∀ env, attributeBase o "extend" env (eval o env) = eval o env := by intro _; rfl)
    (hfew : ∀ env, ((backTo cpos (starEach (e :: es) env)).all (fun x => !x.1) && (backToKw cpos (keywordEach [] env)).all (fun x => x.1.isSome)
      && decide ((e :: es).length + ([] : List Keyword).length + (if ([] : List Keyword).isEmpty then 0 else 1) < 30)) = true := by intro _; rfl)
    (hline : (apos.endLine == cpos.line) = true := by rfl) (hs : ∀ env, starEach (e :: es) env = (false, eval e env) :: starEach es env := by intro _; rfl) (hplain : ∀ env, (backTo cpos (starEach es env)).any (·.1) = false := by intro _; rfl) :
    DE G c k W (.Call (.Attribute o "extend" apos) (e :: es) [] cpos) (mMethL dExtend mo m) := by
  obtain ⟨t, h1, h2⟩ := ho
  obtain ⟨u, h3, h4⟩ := ha
  refine ⟨tBM G.K "list" rExtend t u, fun X h => ?_, sim_methL (fun _ => sm_extend) h2 h4⟩
  rw [← h.K]
  exact pe_bm PySem.F.plainAttrs_list PySem.F.slot_list_extend PySem.F.type_list_extend mt_extend (h1 X h) (h3 X h) (hbase _) (hfew _) hline (hs _) (hplain _)
end
end DL
end
section
set_option Elab.async false
set_option linter.all false
set_option maxRecDepth 100000
set_option maxHeartbeats 2000000
namespace DL
open PySem L2

/-! ### an own exception's __init__: super().__init__(f"..") and fields -/
section
variable {P : Program} {w : World} {A : Around} {E : Value → Shared → Prop}
/-- a value whose repr is some text, not too long -/
def Shw (P : Program) (w : World) (h0 : Heap) (v : Value) : Prop := ∀ (A : Around) (E : Value → Shared → Prop) (s : Shared) (Q : Value → Shared → Prop), A.units + 60 < cLine → (∀ b o, h0.get? b = some o → s.heap.get? b = some o) →
  (∀ (t : Str) (u tk : Tok) (h' : Heap), t.length ≤ 1000000 → (∀ b o, s.heap.get? b = some o → h'.get? b = some o) → Q (.str t u) { s with heap := h', toks := tk }) → wpAny (model P w) A (pyReprObj v) Q E s
theorem Shw.int {h0 : Heap} {i : Int} {t : Tok} (h : i.natAbs.log2 < 1920) : Shw P w h0 (.int i t) := fun A E s Q _ _ hq => by
  refine pyReprObj_int h (hq _ _ _ s.heap ?_ fun _ _ e => e)
  have e := int_text_length_le (k := 1920) (by decide) h
  rw [ofString_length]
  omega
/-- the parts of such a text: written ones, names' reprs -/
inductive PartOk (N : List Str) : Expr → Prop
  | txt {m : Str} {j : Nat} {p : Pos} : m.length ≤ 1000000 → PartOk N (.Constant (.str m) j p)
  | nam {x : Str} {p q : Pos} : x ∈ N → (x == ("__debug__" : Str)) = false → PartOk N (.FormattedValue (.Name x p) 114 none q)
theorem joins_says {env : Env} (hk : env.scope.kind = .function) {m : Str → Option Value} {h0 : Heap} {N : List Str} (hN : ∀ x ∈ N, env.kindOf x = some .local ∧ ∃ v, m x = some v ∧ Shw P w h0 v) (hu : A.units + 60 < cLine) :
    ∀ (parts : List Expr) (acc : Str) (s : Shared) (Q : Str → Shared → Prop), (∀ e ∈ parts, PartOk N e) → acc.length + parts.length * 1000001 ≤ sizeLine → (∀ b o, h0.get? b = some o → s.heap.get? b = some o) → s.heap.Ns env.locals m →
      (∀ (out : Str) (h' : Heap) (tk : Tok), out.length ≤ sizeLine → (∀ b o, s.heap.get? b = some o → h'.get? b = some o) → Q out { s with heap := h', toks := tk }) → Joins (model P w) A E (evalEach parts env) acc Q s
  | [], acc, s, Q, _, hl, _, _, hq => by
    have e0 : evalEach [] env = [] := by first | rfl | simp [evalEach]
    rw [e0]
    exact hq acc s.heap s.toks (by simpa using hl) fun _ _ e => e
  | e :: es, acc, s, Q, hp, hl, h0s, hns, hq => by
    have e0 : evalEach (e :: es) env = eval e env :: evalEach es env := by first | rfl | simp [evalEach]
    rw [e0]
    have hl2 : acc.length + es.length * 1000001 + 1000001 ≤ sizeLine := by rw [List.length_cons] at hl; omega
    have rest : ∀ (y : Str) (t tk : Tok) (h' : Heap), y.length ≤ 1000000 → (∀ b o, s.heap.get? b = some o → h'.get? b = some o) →
        ∃ z u, Value.str y t = .str z u ∧ (acc ++ z).length ≤ sizeLine ∧ Joins (model P w) A E (evalEach es env) (acc ++ z) Q { s with heap := h', toks := tk } := fun y t tk h' hy kp => by
      refine ⟨y, t, rfl, by rw [strLen_append]; omega, ?_⟩
      refine joins_says hk hN hu es (acc ++ y) _ Q (fun e he => hp e (List.mem_cons_of_mem _ he)) (by rw [strLen_append]; omega) (fun b o z => kp b o (h0s b o z)) (hns.keeps kp) fun out h2 tk2 ho k2 => ?_
      exact hq out h2 tk2 ho fun b o z => k2 b o (kp b o z)
    have pe := hp e List.mem_cons_self
    cases pe with
    | txt hm => exact wpAny_Constant_str (rest _ _ _ s.heap hm fun _ _ z => z)
    | @nam x p q hx hd =>
      obtain ⟨hkx, v, hv, hs⟩ := hN x hx
      refine wpAny_FormattedValue_repr (wpAny_Name (wpAny_loadName_local hk hkx hns hv ?_) hd)
      refine hs A E s _ hu h0s fun t u tk h' ht kp => ?_
      exact wpAny_formatField_str (rest t u tk h' ht kp) (rest t _ _ h' ht kp) (by rw [sizeLine_eq]; omega)

/-- self.f = f, one behind the other -/
inductive Sets (self : Str) : List Str → List Stmt → Prop
  | nil : Sets self [] []
  | cons {f : Str} {r : List Str} {ss : List Stmt} {pa pb pc pd : Pos} (hs : ∀ env, swapsWith (.Name f pc) (some (.Attribute (.Name self pa) f pb)) pd.line env = pure false) (hd : (f == ("__debug__" : Str)) = false) :
      Sets self r ss → Sets self (f :: r) (.Assign [.Attribute (.Name self pa) f pb] (.Name f pc) pd :: ss)
/-- an exception of C at a, with these fields so far; all else of h1 stands -/
def ExSt (h1 : Heap) (a C : Addr) (done : List (Str × V)) (h : Heap) : Prop := (∀ b o, b ≠ a → h1.get? b = some o → h.get? b = some o) ∧ match done with
  | [] => ∃ t : Addr, h.get? a = some ({ cls := .ref C, data := .fields #[.ref t, .none, .none, .none, .bool false, .none] } : Obj)
  | _ :: _ => ∃ t dx : Addr, dx ≠ a ∧ (∀ b o, h1.get? b = some o → b ≠ dx) ∧ h.get? a = some ({ cls := .ref C, dict := some dx, data := .fields #[.ref t, .none, .none, .none, .bool false, .none] } : Obj) ∧
      ∃ mA, h.Ns1 dx mA ∧ ∀ f, RelO (done.lookup f) (mA f)
section
variable {K : PySem.W.Frag} {C a : Addr} {h1 : Heap} {env : Env} {m : Str → Option Value} {self : Str}
theorem sets_run (hk : env.scope.kind = .function) (T : OexC K C) (X1 : K.In h1) (na : ∀ o, K.lookup a = some o → False) (nL : env.locals ≠ a) (hns : h1.Ns env.locals m) (hdb : (self == ("__debug__" : Str)) = false)
    (hself : env.kindOf self = some .local ∧ m self = some (.ref a)) :
    ∀ (r : List Str) (ss : List Stmt) (ws : List V) (done : List (Str × V)) (s : Shared) (Q : Flow → Shared → Prop), Sets self r ss → r.length = ws.length → done.length + r.length ≤ 900 →
      (∀ p ∈ r.zip ws, env.kindOf p.1 = some .local ∧ PySem.W.findIn K (.ref C) p.1 = some none ∧ ∃ u, m p.1 = some u ∧ RelV p.2 u) → ExSt h1 a C done s.heap →
      (∀ (h' : Heap) (tk : Tok), ExSt h1 a C ((r.zip ws).reverse ++ done) h' → Q .next { s with heap := h', toks := tk }) → wpAny (model P w) A (execs ss env) Q E s
  | [], ss, ws, done, s, Q, hS, hl, hn, hv, hx, hq => by
    cases hS
    refine wpAny_execs_nil ?_
    exact hq s.heap s.toks (by simpa using hx)
  | f :: r, ss, [], done, s, Q, hS, hl, hn, hv, hx, hq => by simp at hl
  | f :: r, ss, y :: ws, done, s, Q, hS, hl, hn, hv, hx, hq => by
    cases hS with
    | @cons f' r' ss' pa pb pc pd hs hd hS' =>
      obtain ⟨kf, nf, u, mu, ru⟩ := hv (f, y) (by simp)
      have ns : s.heap.Ns env.locals m := hns.at fun o z => hx.1 _ o nL z
      have XK : K.In s.heap := fun b o z => hx.1 b o (fun e => na o (by rw [← e]; exact z)) (X1 b o z)
      refine wpAny_execs_cons (plainObj_wpAny_Assign_Attribute (wpAny_Name (wpAny_loadName_local hk kf ns mu ?_) hd) (hs env))
      refine wpAny_Name (wpAny_loadName_local hk hself.1 ns hself.2 ?_) hdb
      -- what is left, behind this field
      have more : ∀ (h' : Heap) (tk : Tok), ExSt h1 a C ((f, y) :: done) h' → wpAny (model P w) A (execs ss' env) Q E { s with heap := h', toks := tk } := fun h' tk hx' => by
        refine sets_run hk T X1 na nL hns hdb hself r ss' ws ((f, y) :: done) _ Q hS' (by simpa using hl) (by simp at hn ⊢; omega) (fun p hp => hv p (by simp [hp])) hx' fun h2 tk2 hx2 => ?_
        exact hq h2 tk2 (by simpa using hx2)
      obtain ⟨nm, q, N, bs, bm, sn, sub, ab, col, dd, k0, k1, k2, k3, k5, hC, hbm⟩ := T.cls
      have hcl : PySem.W.clsIn K C = some { name := nm, bases := bs, mro := .ref C :: bm, ns := N, qualname := q, hasDict := true, slotNames := sn, subclasses := sub, abstract := ab, collection := col, hasDel := false } := by
        unfold PySem.W.clsIn
        rw [hC] <;> rfl
      have hmr : PySem.HandSPX.refsVE (.ref C :: bm) = true := hbm
      obtain ⟨hp, g, d, tk, os⟩ := s
      cases done with
      | nil =>
        obtain ⟨kp, t, ea⟩ := hx
        refine PySem.W.set_plain XK (ox := { cls := .ref C, data := .fields #[.ref t, .none, .none, .none, .bool false, .none] }) (od := none) ⟨ea, rfl, rfl, trivial⟩ T.sa ?_
        refine PySem.HandSPX.exc_osa XK ea hcl hmr rfl nf fun h' tk' dx k dn dne ea' hn' => ?_
        refine more h' tk' ⟨fun b o nb z => k b o nb (kp b o nb z), t, dx, dne, fun b o z e => ?_, ea', _, hn', relO_put (fs := []) ru fun _ => True.intro⟩
        by_cases hb : b = a
        · exact dne (e.symm.trans hb)
        · have := Heap.lt_size (kp b o hb z)
          rw [e] at this
          exact absurd this (Nat.not_lt.mpr dn)
      | cons p0 done =>
        obtain ⟨kp, t, dx, dne, fresh, ea, mA, hnA, rel⟩ := hx
        have hw := within_of rel
        obtain ⟨oD, _, _, hoD, _, _⟩ := hnA.count hw
        refine PySem.W.set_plain XK (ox := { cls := .ref C, dict := some dx, data := .fields #[.ref t, .none, .none, .none, .bool false, .none] }) (od := some oD) ⟨ea, rfl, rfl, hoD⟩ T.sa ?_
        refine PySem.OEX.osa_old XK ea hnA hw (by rw [List.length_map]; simp at hn ⊢; omega) hcl hmr rfl nf fun h' tk' k hn' => ?_
        refine more h' tk' ⟨fun b o nb z => k b o (fresh b o z) (kp b o nb z), t, dx, dne, fresh, k a _ (Ne.symm dne) ea, _, hn', relO_put ru rel⟩
end
end
end DL
end
section
set_option Elab.async false
set_option linter.all false
set_option maxRecDepth 100000
set_option maxHeartbeats 2000000
namespace DL
open PySem L2
open PySem.W (ksEnv ksFn KxsAt kxs_mw)

/-! ### super().__init__(f"..") of an own exception, and the whole __init__ -/
/-- what the text and the class say of such an __init__ -/
structure XFacts (P : Program) (K : PySem.W.Frag) (mg : Str → Option Value) (C fI cc cda : Addr) (qual : Str) (params : Arguments) (scope : Scope) (sf : Str) (fs : List Str) : Prop where
  T : OexC K C
  code : PySem.W.codeIn K (.ref cda) qual = true
  file : ∃ ccl cdd vs ccs f tf, K.lookup cda = some ⟨ccl, cdd, .fields vs, ccs⟩ ∧ vs[2]? = some (.str f tf) ∧ ((P.main.file : Str) == f) = true
  top : (P.main.scope.names.lookup ("super" : Str)).isSome = false
  cell : ∃ cl cld csl, K.lookup cc = some ⟨cl, cld, .cell (some (.ref C)), csl⟩
  sub : PySem.W.mroIn K C (.ref C) = some true
  subV : PySem.W.subIn K (.ref C) (.type "ValueError") = some true
  sup : PySem.W.ks_superIn K C C "__init__" = some (some (.builtin "ValueError.__init__"))
  opq : PySem.W.nsIn K cStatics "thirdparty.any" = some none
  glob : mg "super" = none
  first : ∃ ar : Arg, (params.posonlyargs ++ params.args).head? = some ar ∧ ar.arg = sf
  kind : scope.kind = .function
  co : scope.isCoroutine = false
  gen : scope.isGenerator = false
  nocell : ∀ x ∈ scope.names, x.2 ≠ .cell
  ksup : scope.names.lookup ("super" : Str) = some .globalImplicit
  kcls : scope.names.lookup ("__class__" : Str) = some .free
  kself : scope.names.lookup sf = some .local
  kfs : ∀ f ∈ fs, scope.names.lookup f = some .local ∧ PySem.W.findIn K (.ref C) f = some none
  nd : (sf :: fs).Nodup
  dself : (sf == ("__debug__" : Str)) = false
section
variable {P : Program} {w : World} {K : PySem.W.Frag} {mg : Str → Option Value} {base : Heap} {A : Around} {E : Value → Shared → Prop} {C fI cc cda : Addr} {name qual : Str} {params : Arguments} {scope : Scope} {sf : Str} {fs : List Str} {body : List Stmt}
  {dV kV doc pm ct oc : Value} {an od : Option Addr} {osl : Array (Option Value)}
theorem sup_run (F : XFacts P K mg C fI cc cda qual params scope sf fs) (M : Mod K mg base) (lk : K.lookup fI = some ⟨oc, od, .func (ksFn name qual params body scope dV kV doc pm an (.ref cda) ct cc), osl⟩)
    {L a t0 : Addr} {m : Str → Option Value} {s : Shared} {v1 v2 : Expr} {rest : List Expr} {p0 p1 p2 p3 p4 p5 : Pos} {h0 : Heap} {N : List Str} {Q : Flow → Shared → Prop}
    (XS : K.In s.heap) (bs : ∀ b o, base.get? b = some o → s.heap.get? b = some o) (ea : s.heap.get? a = some ({ cls := .ref C, data := .fields #[.ref t0, .none, .none, .none, .bool false, .none] } : Obj)) (nC : a ≠ C)
    (hns : s.heap.Ns L m) (hself : m sf = some (.ref a)) (hu : A.units + 60 < cLine) (h0s : ∀ b o, h0.get? b = some o → s.heap.get? b = some o)
    (hN : ∀ x ∈ N, scope.names.lookup x = some .local ∧ ∃ v, m x = some v ∧ Shw P w h0 v) (hp : ∀ e ∈ v1 :: v2 :: rest, PartOk N e) (hl : rest.length ≤ 10)
    {pl : Env → Sem Bool} (he : ∀ env, eval (.Call (.Attribute (.Call (.Name "super" p0) [] [] p1) "__init__" p2) [.JoinedStr (v1 :: v2 :: rest) p3] [] p4) env = (do
      let ov ← attributeBase (.Call (.Name "super" p0) [] [] p1) "__init__" env (eval (.Call (.Name "super" p0) [] [] p1) env)
      standAt p2.atName
      let (f, first) ← holding [ov] (getMethod ov "__init__" (pl env))
      callWith p4 f first (backTo p4 (starEach [.JoinedStr (v1 :: v2 :: rest) p3] env)) []))
    (hsw : ∀ env, swapsWith (.Call (.Attribute (.Call (.Name "super" p0) [] [] p1) "__init__" p2) [.JoinedStr (v1 :: v2 :: rest) p3] [] p4) none p5.line env = pure false)
    (hq : ∀ (h' : Heap) (tk : Tok), (∀ b o, b ≠ a → s.heap.get? b = some o → h'.get? b = some o) → (∃ t : Addr, h'.get? a = some ({ cls := .ref C, data := .fields #[.ref t, .none, .none, .none, .bool false, .none] } : Obj)) → Q .next { s with heap := h', toks := tk }) :
    wpAt (model P w) A (.func body (ksEnv qual scope L fI (.ref cda) cc)) (exec (.Expr (.Call (.Attribute (.Call (.Name "super" p0) [] [] p1) "__init__" p2) [.JoinedStr (v1 :: v2 :: rest) p3] [] p4) p5) (ksEnv qual scope L fI (.ref cda) cc)) Q E s := by
  obtain ⟨ccl, cdd, vs, ccs, file, tf, hco, hvs, hfile⟩ := F.file
  obtain ⟨cl, cld, csl, hcell⟩ := F.cell
  obtain ⟨ar, har, ear⟩ := F.first
  obtain ⟨nm, q, Nn, bsl, bm, sn, sub, ab, col, dd, k0, k1, k2, k3, k5, hC, hbm⟩ := F.T.cls
  have hcls : PySem.W.clsIn K C = some { name := nm, bases := bsl, mro := .ref C :: bm, ns := Nn, qualname := q, hasDict := true, slotNames := sn, subclasses := sub, abstract := ab, collection := col, hasDel := false } := by
    unfold PySem.W.clsIn
    rw [hC] <;> rfl
  have eC : s.heap.get? C = _ := XS _ _ hC
  have kfun : (ksEnv qual scope L fI (.ref cda) cc).scope.kind = .function := F.kind
  have inter : interactive (ksEnv qual scope L fI (.ref cda) cc) = false := by
    unfold interactive
    rw [kfun]
    rfl
  refine ks_wpAt_Expr_any (ks_wpAt_MethodCall ?_ (he _)) inter (hsw _)
  refine ks_wpAt_super_base (env := ksEnv qual scope L fI (.ref cda) cc) F.ksup F.kcls (by decide) rfl (XS _ _ lk) rfl har rfl (XS _ _ hco) rfl hvs hfile F.top ?_
  obtain ⟨mb, hb1, hb2⟩ := M.blt
  have boot : mb "super" = some (.type "super") := (hb2 _ (by decide)).trans (by kernel_rfl)
  refine PySem.W.ks_loadName_global F.kind F.ksup (PySem.Calls.loadGlobal_builtin (env := ksEnv qual scope L fI (.ref cda) cc) (M.glob.keeps bs) F.glob (hb1.keeps bs) boot ⟨rfl, ?_⟩)
  refine wpAny_loadName_free F.kind F.kcls rfl ⟨_, XS _ _ hcell, rfl⟩ ?_
  rw [ear]
  refine wpAny_loadName_local F.kind F.kself hns hself ?_
  obtain ⟨hh, g, d, t, os⟩ := s
  refine ks_wpAny_isType_cls eC rfl ⟨rfl, ?_⟩
  refine ks_wpAny_call_super eC rfl ea rfl (fun c e => by cases e) (PySem.W.looks_mroIn XS F.sub) fun h2 eso k2 => ?_
  -- the bound __init__ of ValueError
  have X2 : K.In h2 := XS.keeps k2
  have I2 : PySem.W.InstAt h2 a ({ cls := .ref C, data := .fields #[.ref t0, .none, .none, .none, .bool false, .none] } : Obj) C none := ⟨k2 _ _ ea, rfl, rfl, trivial⟩
  have along : PySem.W.alongIn K "__init__" (((Value.ref C :: bm).dropWhile (· != .ref C)).drop 1) = some (some (.builtin "ValueError.__init__")) := by
    have e := F.sup
    unfold PySem.W.ks_superIn at e
    rw [hcls] at e
    exact e
  have mr : PySem.W.Looks (model P w) h2 (mroOf (.ref C)) (Value.ref C :: bm) := (PySem.W.looks_clsIn X2 hcls).andThen .now
  refine PySem.W.kxs_getMethod PySem.W.kxs_ValueError eso (PySem.W.looks_opaque X2 F.opq) mr rfl X2 along (I2.type.andThen (PySem.W.looks_subIn X2 F.subV)) nC (by decide) ?_
  have k3 : ∀ b o, hh.get? b = some o → (h2.push (kxs_mw "ValueError.__init__" a)).get? b = some o := fun b o z => Heap.get?_push_of_some _ (k2 b o z)
  have eu : (h2.push (kxs_mw "ValueError.__init__" a)).get? h2.objs.size = some (kxs_mw "ValueError.__init__" a) := Heap.get?_push_at rfl rfl
  refine PySem.W.kxs_callWith (i := "ValueError.__init__") (x := a) rfl ?_
  refine PySem.Calls.evalArgs_plain (PySem.Calls.spliced_cons ?_)
  refine wpAny_JoinedStr (pos := p3) (joins_says F.kind hN hu (v1 :: v2 :: rest) Str.empty _ _ hp ?_ (fun b o z => k3 b o (h0s b o z)) (hns.keeps k3) fun out h4 tk4 ho k4 => ⟨ho, PySem.Calls.spliced_nil ?_⟩)
  · rw [sizeLine_eq]
    simp only [List.length_cons]
    show 0 + _ ≤ _
    omega
  refine ⟨k4 _ _ eu, ?_⟩
  have X4 : K.In h4 := XS.keeps fun b o z => k4 b o (k3 b o z)
  have ea4 := k4 _ _ (k3 _ _ ea)
  have eu4 := k4 _ _ eu
  refine wpAny_call (codeAny_of_tree ?_)
  show wpAny _ A.in1 (callAny (.ref h2.objs.size) ⟨[.str out _], []⟩) _ _ _
  simp only [callAny]
  refine wpAny_bind (wpAny_load eu4 ?_)
  simp only [kxs_mw, show (Value.type "method-wrapper" == Value.type "method" || Value.type "method-wrapper" == Value.type "builtin_function_or_method" || Value.type "method-wrapper" == Value.type "method-wrapper") = true by decide, if_true]
  refine PySem.W.KFB.if_so (by decide) ?_
  refine wpAny_bind (PySem.W.check_bound_init PySem.F.excBase_ValueError.toExcCallFacts (X4 _ _ hC) ea4 rfl ?_)
  refine wpAny_bind (wpAny_pure (wpAny_pure ?_))
  refine ⟨plainId_quiet PySem.F.excBase_ValueError.init.plain _, codeAny_builtin PySem.F.excBase_ValueError.initEntry ?_⟩
  refine PySem.W.exc_init_tree (cls := .ref C) (t0 := t0) (dv := none) (c2 := .none) (c3 := .none) (b4 := .bool false) ea4 (by rw [sizeLine_eq]; show 1 ≤ 16777216; decide) fun h5 k5 e5 _ => ?_
  exact hq h5 _ (fun b o nb z => k5 b o nb (k4 b o (k3 b o z))) ⟨_, e5⟩
end
end DL
end
section
set_option Elab.async false
set_option linter.all false
set_option maxRecDepth 100000
set_option maxHeartbeats 2000000
namespace DL
open PySem L2
open PySem.W (ksEnv ksFn)

/-! ### the promise of an own exception's __init__; the exception made -/
theorem zip_look {x : Str} {u : Value} : ∀ {N : List Str} {us : List Value} {i : Nat}, N.Nodup → N[i]? = some x → us[i]? = some u → (N.zip us).reverse.lookup x = some u := by
  intro N us i nd h1 h2
  have out : ∀ {l : List (Str × Value)} {q : List (Str × Value)}, (∀ v, (x, v) ∉ l) → (l ++ q).lookup x = q.lookup x := by
    intro l
    induction l with
    | nil => intro q _; rfl
    | cons p l ih =>
      intro q h
      obtain ⟨y, v⟩ := p
      have ne : (x == y) = false := by
        cases c : x == y with
        | false => rfl
        | true => rw [beq_iff_eq] at c; exact absurd (by rw [c]; exact List.mem_cons_self) (h v)
      rw [List.cons_append, List.lookup_cons, ne]
      exact ih fun v' hv => h v' (List.mem_cons_of_mem _ hv)
  induction N generalizing us i with
  | nil => simp at h1
  | cons n N ih =>
    cases us with
    | nil => simp at h2
    | cons u0 us =>
      obtain ⟨n1, n2⟩ := List.nodup_cons.mp nd
      rw [List.zip_cons_cons, List.reverse_cons]
      cases i with
      | zero =>
        simp at h1 h2
        subst h1; subst h2
        rw [out fun v hv => n1 (List.of_mem_zip (List.mem_reverse.mp hv)).1]
        rw [List.lookup_cons, beq_self_eq_true]
      | succ i =>
        have h1 : N[i]? = some x := by simpa using h1
        have h2 : us[i]? = some u := by simpa using h2
        have q := ih n2 h1 h2
        have app : ∀ {l : List (Str × Value)} {q : List (Str × Value)}, l.lookup x = some u → (l ++ q).lookup x = some u := by
          intro l
          induction l with
          | nil => intro q h; cases h
          | cons p l ih =>
            intro q h
            obtain ⟨y, v⟩ := p
            rw [List.cons_append, List.lookup_cons] at *
            cases c : x == y with
            | true => rw [c] at h; exact h
            | false => rw [c] at h; exact ih h
        exact app q
/-- what such an __init__ promises -/
def spX (C : Addr) (fs : List Str) (shv : Hp → V → Prop) : Sp := fun vs H Q _ => ∃ (a : Addr) (ws : List V), vs = .ref a :: ws ∧ ws.length = fs.length ∧ H a = some (exo a C none) ∧ (∀ v ∈ ws, shv H v) ∧
  ∀ d, H d = none → d ≠ a → Q .non (upd (upd H d (exd d (fs.zip ws).reverse)) a (exo a C (some d)))
section
variable {P : Program} {w : World} {K : PySem.W.Frag} {mg : Str → Option Value} {base : Heap} {CX : CXT} {C fI cc cda : Addr} {name qual : Str} {params : Arguments} {scope : Scope} {sf : Str} {fs : List Str} {body : List Stmt}
  {dV kV doc pm ct oc : Value} {an od : Option Addr} {osl : Array (Option Value)} {shv : Hp → V → Prop}
/-- one object is made anew, a dict comes: what holds of the heap then -/
theorem made_un {fr : List Addr} {H : Hp} {h h' : Heap} {a d : Addr} {done : List (Str × V)} {t : Addr} {mA : Str → Option Value} (hok : HOk P w H h) (ea : H a = some (exo a C none)) (k : ∀ b o, b ≠ a → h.get? b = some o → h'.get? b = some o)
    (dn : h.get? d = none) (dne : d ≠ a) (ea' : h'.get? a = some ({ cls := .ref C, dict := some d, data := .fields #[.ref t, .none, .none, .none, .bool false, .none] } : Obj)) (hn : h'.Ns1 d mA) (rel : ∀ f, RelO (done.lookup f) (mA f)) :
    Un fr [] H (upd (upd H d (exd d done)) a (exo a C (some d))) h h' ∧ HOk P w (upd (upd H d (exd d done)) a (exo a C (some d))) h' := by
  have hd : H d = none := hok.gone dn
  have bd : ∀ {b : Addr} {o : Obj}, h.get? b = some o → b ≠ d := fun {b o} q z => by rw [z, dn] at q; cases q
  have ba : ∀ {b : Addr}, H b = none → b ≠ a := fun {b} n z => by rw [z, ea] at n; cases n
  refine ⟨⟨fun b o q n _ _ => k b o (ba n) q, fun b o q n _ _ => ⟨o.slots, k b o (ba n) q⟩, fun b o q n _ => ?_, fun b o q _ => ?_, fun b xs q => ?_, fun b o u q => ?_, fun b ps q => ⟨#[], ?_⟩⟩, fun b o q => ?_⟩
  · rw [upd_ne (ba n), upd_ne (bd q)]; exact n
  · by_cases e : b = a
    · exact ⟨_, by rw [e]; exact ea'⟩
    · exact ⟨o, k b o e q⟩
  · rw [upd_ne (at_ne ea q exo_tup), upd_ne (ne_of_none q hd)]; exact q
  · rw [upd_ne (at_ne ea q exo_frz), upd_ne (ne_of_none q hd)]; exact q
  · rw [upd_ne (at_ne ea q exo_tbl), upd_ne (ne_of_none q hd), q]; simp
  · by_cases e : b = a
    · subst e
      rw [upd_same] at q
      cases q
      exact exo_ok ea'
    · rw [upd_ne e] at q
      by_cases e2 : b = d
      · subst e2
        rw [upd_same] at q
        cases q
        exact exd_ok hn rel
      · rw [upd_ne e2] at q
        refine (hok b o q).stay (fun c v hc z => k c v ?_ z) (fun c hc => ?_) fun c xs hc => ?_
        · rcases hc with hc | hc
          · rw [hc]; exact e
          · exact at_ne ea hc exo_own
        · rw [upd_ne (at_ne ea hc exo_own), upd_ne (ne_of_none hc hd)]; exact hc
        · rw [upd_ne (at_ne ea hc exo_tup), upd_ne (ne_of_none hc hd)]; exact hc
theorem fn_xinit {v1 v2 : Expr} {rest : List Expr} {p0 p1 p2 p3 p4 p5 : Pos} {asg : List Stmt} (F : XFacts P K mg C fI cc cda qual params scope sf fs)
    (lk : K.lookup fI = some ⟨oc, od, .func (ksFn name qual params body scope dV kV doc pm an (.ref cda) ct cc), osl⟩)
    (hb : body = .Expr (.Call (.Attribute (.Call (.Name "super" p0) [] [] p1) "__init__" p2) [.JoinedStr (v1 :: v2 :: rest) p3] [] p4) p5 :: asg) (hS : Sets sf fs asg) (hp : ∀ e ∈ v1 :: v2 :: rest, PartOk fs e) (hl : rest.length ≤ 10) (hne : fs ≠ []) (hfl : fs.length ≤ 800)
    {pl : Env → Sem Bool} (he : ∀ env, eval (.Call (.Attribute (.Call (.Name "super" p0) [] [] p1) "__init__" p2) [.JoinedStr (v1 :: v2 :: rest) p3] [] p4) env = (do
      let ov ← attributeBase (.Call (.Name "super" p0) [] [] p1) "__init__" env (eval (.Call (.Name "super" p0) [] [] p1) env)
      standAt p2.atName
      let (f, first) ← holding [ov] (getMethod ov "__init__" (pl env))
      callWith p4 f first (backTo p4 (starEach [.JoinedStr (v1 :: v2 :: rest) p3] env)) []))
    (hsw : ∀ env, swapsWith (.Call (.Attribute (.Call (.Name "super" p0) [] [] p1) "__init__" p2) [.JoinedStr (v1 :: v2 :: rest) p3] [] p4) none p5.line env = pure false)
    (hshv : ∀ (H : Hp) (h : Heap) (v : V) (u : Value), HOk P w H h → shv H v → RelV v u → Shw P w h u) :
    FnOk P w K mg base CX 1 fI (ksFn name qual params body scope dV kV doc pm an (.ref cda) ct cc) (sf :: fs) (spX C fs shv) := by
  refine ⟨fun vs H Q E ⟨a, ws, e1, e2, _⟩ => by rw [e1, List.length_cons, List.length_cons, e2], fun A outer s H args us vs Q E hr e0 hbd r hsp => ?_⟩
  obtain ⟨a, ws, rfl, hws, ea, hsh, hq⟩ := hsp
  cases r with
  | @cons _ ua _ uws ra rws =>
  obtain rfl : ua = Value.ref a := ra
  have XS : K.In s.heap := e0.mod.kin.keeps fun b o z => (e0.bs b o z).1
  have lim : s.heap.NoLimit := e0.mod.nolimit.keeps fun b o z => (e0.bs b o z).1
  have na : ∀ o, K.lookup a = some o → False := fun o z => by
    have := (e0.bs a o (e0.mod.kin a o z)).2
    rw [ea] at this; cases this
  obtain ⟨t0, eh⟩ := exo_at e0.hok ea
  have nC : a ≠ C := fun z => by
    obtain ⟨nm, q, N, bs, bm, sn, sub, ab, col, dd, k0, k1, k2, k3, k5, hC, hbm⟩ := F.T.cls
    exact na _ (by rw [z]; exact hC)
  have hul : uws.length = fs.length := by rw [← rws.length]; exact hws
  -- how the names stand
  have look : ∀ (i : Nat) (x : Str) (u : Value), (sf :: fs)[i]? = some x → (Value.ref a :: uws)[i]? = some u → ((sf :: fs).zip (Value.ref a :: uws)).reverse.lookup x = some u := fun i x u h1 h2 => zip_look F.nd h1 h2
  have hloc : ∀ x ∈ (sf :: fs).zip (Value.ref a :: uws), scope.names.lookup x.1 = some .local := fun x hx => by
    rcases List.mem_cons.mp (List.of_mem_zip hx).1 with z | z
    · rw [z]; exact F.kself
    · exact (F.kfs _ z).1
  refine ks_codeAny_call_defAt (fd := ksFn name qual params body scope dV kV doc pm an (.ref cda) ct cc) (body := body) (binds := (sf :: fs).zip (Value.ref a :: uws)) hr.depth (XS _ _ lk) rfl lim (PySem.W.codeRec_of XS F.code) rfl hbd F.nocell hloc (fun h1 hns kp => ?_) F.co F.gen F.kind
  have la : s.heap.objs.size ≠ a := Ne.symm (Nat.ne_of_lt (Heap.lt_size eh))
  have mself : ((sf :: fs).zip (Value.ref a :: uws)).reverse.lookup sf = some (.ref a) := look 0 sf _ rfl rfl
  have msh : ∀ x ∈ fs, ∃ (i : Nat) (v : V) (u : Value), fs[i]? = some x ∧ ws[i]? = some v ∧ uws[i]? = some u ∧ RelV v u := fun x hx => by
    obtain ⟨i, hi⟩ := List.mem_iff_getElem?.mp hx
    have l := (List.getElem?_eq_some_iff.mp hi).1
    have l2 : i < ws.length := by omega
    obtain ⟨u, hu, rv⟩ := Vals.get (xs := ws) (us := uws) rws (List.getElem?_eq_getElem l2)
    exact ⟨i, ws[i], u, hi, List.getElem?_eq_getElem l2, hu, rv⟩
  subst hb
  refine ks_wpAt_execs_cons ?_
  have units : (A.deeper (ksEnv qual scope s.heap.objs.size fI (.ref cda) cc)).units + 60 < cLine := by
    have := (hr.deeper (ksEnv qual scope s.heap.objs.size fI (.ref cda) cc)).units
    omega
  refine sup_run (N := fs) (h0 := s.heap) F e0.mod lk (XS.keeps kp) (fun b o z => kp b o (e0.bs b o z).1) (kp _ _ eh) nC hns mself units kp (fun x hx => ?_) hp hl he hsw fun h2 tk2 k2 e2 => ?_
  · obtain ⟨i, v, u, h3, h4, h5, rv⟩ := msh x hx
    exact ⟨(F.kfs x hx).1, u, look (i + 1) x u (by simpa using h3) (by simpa using h5), hshv H s.heap v u e0.hok (hsh v (List.mem_of_getElem? h4)) rv⟩
  refine wpAt_of_wpAny ?_
  refine sets_run (K := K) (C := C) (a := a) (h1 := h1) (env := ksEnv qual scope s.heap.objs.size fI (.ref cda) cc) (m := fun x => ((sf :: fs).zip (Value.ref a :: uws)).reverse.lookup x) F.kind F.T (XS.keeps kp) na la hns F.dself ⟨F.kself, mself⟩ fs asg ws [] _ _ hS hws.symm (by simpa using (by omega : fs.length ≤ 900)) (fun p hp => ?_) ⟨k2, e2⟩ fun h3 tk3 hx => ?_
  · obtain ⟨i, hi⟩ := List.mem_iff_getElem?.mp hp
    rw [List.getElem?_zip_eq_some] at hi
    obtain ⟨h3, h4⟩ := hi
    obtain ⟨u, hu, rv⟩ := Vals.get (xs := ws) (us := uws) rws h4
    exact ⟨(F.kfs _ (List.mem_of_getElem? h3)).1, (F.kfs _ (List.mem_of_getElem? h3)).2, u, look (i + 1) _ u (by simpa using h3) (by simpa using hu), rv⟩
  · rw [List.append_nil] at hx
    have ne : (fs.zip ws).reverse ≠ [] := fun z => by
      have := congrArg List.length z
      rw [List.length_reverse, List.length_zip, hws, Nat.min_self] at this
      exact hne (List.eq_nil_of_length_eq_zero (by simpa using this))
    generalize hdone : (fs.zip ws).reverse = done at *
    cases done with
    | nil => exact absurd rfl ne
    | cons p0 done =>
      obtain ⟨k3, t, d, dne, fresh, e3, mA, hn, rel⟩ := hx
      have dn : s.heap.get? d = none := by
        cases c : s.heap.get? d with
        | none => rfl
        | some o => exact absurd rfl (fresh d o (kp d o c))
      obtain ⟨U, hok⟩ := made_un (fr := frs outer) e0.hok ea (fun b o nb z => k3 b o nb (kp b o z)) dn dne e3 hn rel
      exact ⟨.non, _, rfl, e0.bare, U, hok, rfl, hq d (e0.hok.gone dn) dne⟩
end
end DL
end
section
set_option Elab.async false
set_option linter.all false
set_option maxRecDepth 100000
set_option maxHeartbeats 2000000
namespace DL
open PySem L2
open PySem.W (ksEnv ksFn)

/-! ### raise C(..) of an own exception -/
/-- a value whose repr is some text, whatever the state -/
def ShV (P : Program) (w : World) : Hp → V → Prop := fun H v => ∀ (h : Heap) (u : Value), HOk P w H h → RelV v u → Shw P w h u
/-- C(e, ..) -/
def tMkX (P : Program) (w : World) (C : Addr) (fs : List Str) (ta : TA) : St → Hp → XK → Prop := fun σ H Q => ta σ H fun vs H1 => vs.length = fs.length ∧ (∀ a, H1 a = none → ∀ v ∈ vs, ShV P w (upd H1 a (exo a C none)) v) ∧
  ∀ d, H1 d = none → Q (.ref C) (some d) (upd H1 d (.xd (fs.zip vs).reverse))
theorem pmk_x {X : Cx} {x sf : Str} {C fI : Addr} {k : Nat} {fd : FuncData} {fs : List Str} {e : Expr} {es : List Expr} {ta : TA} {p pos : Pos} (T : OexC X.K C) (iC : PySem.W.findIn X.K (.ref C) "__init__" = some (some (.ref fI))) (tI : PySem.W.typeIn X.K (.ref fI) = some (.type "function"))
    (F1 : FnOk X.prog X.w X.K X.mg X.base (L2N.CX X.prog X.w) k fI fd (sf :: fs) (spX C fs (ShV X.prog X.w))) (hr : Room (k + 1) X.A) (hb : Binds X.K fd (sf :: fs) []) (hg : Gl X x) (hm : X.mg x = some (.ref C)) (hfl : fs.length ≤ 900) (ha : PA X (e :: es) ta)
    (hdb : (x == ("__debug__" : Str)) = false := by decide) (he : starEach (e :: es) X.env = (false, eval e X.env) :: starEach es X.env := by rfl) (hpl : (backTo pos (starEach es X.env)).any (·.1) = false := by rfl) :
    L2N.PMk X (.Call (.Name x p) (e :: es) [] pos) (tMkX X.prog X.w C fs ta) := by
  intro pins s σ H Q I h
  obtain ⟨nm, q, N, bs, bm, sn, sub, ab, col, dd, k0, k1, k2, k3, k5, hC, hbm⟩ := T.cls
  refine wpAny_Call_Name_kw (ld_glob I hg hm ?_ hdb)
  refine PySem.W.callWith_K (h₀ := X.base) I.ok.mod.kin T.kC (thn (ha.run pos pins s σ H _ I h) fun us s1 ⟨vs, H1, I1, r1, hvl, hsh, q1⟩ => ⟨I1.kIn, ?_⟩) he hpl
  show wpAny _ _ (call (.ref C) us) _ _ _
  obtain ⟨hp, g, dr, tk, os⟩ := s1
  have above : hp.objs.size ≤ hp.objs.size + 1 := Nat.le_succ _
  have fresh : H1 (hp.objs.size + 1) = none := I1.hok.fresh above
  have grows : ∀ b o, hp.get? b = some o → ((hp.push (PySem.W.kdv_tup us)).push (PySem.HandSPX.excO C hp.objs.size)).get? b = some o := fun b o z => Heap.get?_push_of_some _ (Heap.get?_push_of_some _ z)
  have made : ((hp.push (PySem.W.kdv_tup us)).push (PySem.HandSPX.excO C hp.objs.size)).get? (hp.objs.size + 1) = some (PySem.HandSPX.excO C hp.objs.size) := by heap_get
  have I2 := I1.laid (t' := tk) (a := hp.objs.size + 1) (o := exo (hp.objs.size + 1) C none) (h' := (hp.push (PySem.W.kdv_tup us)).push (PySem.HandSPX.excO C hp.objs.size)) grows above (exo_ok made)
  have r2 : Vals (V.ref (hp.objs.size + 1) :: vs) (Value.ref (hp.objs.size + 1) :: us) := .cons rfl r1
  have want : spX C fs (ShV X.prog X.w) (V.ref (hp.objs.size + 1) :: vs) (upd H1 (hp.objs.size + 1) (exo (hp.objs.size + 1) C none))
      (fun v H2 => v = .non ∧ ∃ (d : Addr) (gs : List (Str × V)), H2 (hp.objs.size + 1) = some (exo (hp.objs.size + 1) C (some d)) ∧ H2 d = some (exd d gs) ∧ H1 d = none ∧ Q (.ref C) (some d) (upd (del H2 (hp.objs.size + 1)) d (.xd gs))) (fun _ _ _ => False) := by
    refine ⟨_, vs, rfl, hvl, upd_same, hsh _ fresh, fun d hd nd => ⟨rfl, d, _, upd_same, by rw [upd_ne nd, upd_same], by rw [upd_ne nd] at hd; exact hd, ?_⟩⟩
    have hd1 : H1 d = none := by rw [upd_ne nd] at hd; exact hd
    have same : upd (del (upd (upd (upd H1 (hp.objs.size + 1) (exo (hp.objs.size + 1) C none)) d (exd d (fs.zip vs).reverse)) (hp.objs.size + 1) (exo (hp.objs.size + 1) C (some d))) (hp.objs.size + 1)) d (.xd (fs.zip vs).reverse) = upd H1 d (.xd (fs.zip vs).reverse) := by
      funext b
      by_cases e1 : b = d
      · rw [e1, upd_same, upd_same]
      · rw [upd_ne e1, upd_ne e1]
        by_cases e2 : b = hp.objs.size + 1
        · rw [e2, del_same, fresh]
        · rw [del_ne e2, upd_ne e2, upd_ne e1, upd_ne e2]
    rw [same]
    exact q1 d hd1
  have bind := hb ⟨(hp.push (PySem.W.kdv_tup us)).push (PySem.HandSPX.excO C hp.objs.size), g, dr, tk, os⟩ (Value.ref (hp.objs.size + 1) :: us) I2.kIn (by
    rw [List.append_nil, ← r2.length]
    exact F1.len _ _ _ _ want)
  rw [List.append_nil] at bind
  have small : us.length ≤ sizeLine := by
    rw [← Paired.length r1, hvl, sizeLine_eq]
    omega
  refine wpAny_call (PySem.HandSPX.call_own PySem.F.excBase_ValueError (fun Y => PySem.HandSPX.refsVE_contains Y bm hbm) (I1.kIn _ _ hC) (PySem.W.looks_findIn I1.kIn iC) (fun self => PySem.W.bind_fn I1.kIn self tI) small
    (codeAny_mono (F1.run _ X.stack _ _ ⟨Value.ref (hp.objs.size + 1) :: us, []⟩ _ _ _ (fun _ _ _ => False) (hr.make C us []) (I2.env0.make C us []) bind r2 want) fun r s' got => ?_))
  match r, got with
  | .error er, got =>
    obtain ⟨_, _, _, _, _, _, _, _, _, _, _, _, z⟩ := got
    exact z.elim
  | .ok (.ret u), got =>
    obtain ⟨v, H2, os2, bare2, un2, hok2, rv, ev, d, gs, ea, ed, hd1, q2⟩ := got
    subst ev
    obtain ⟨h2, g2, d2, t2, os'⟩ := s'
    obtain ⟨t0, G, J, kG, ge, hoe, na⟩ := mk_end0 (d2 := d2) (t2 := t2) I1 above grows un2 hok2 os2 bare2 ea ed hd1
    exact ⟨rv, hp.objs.size + 1, _, _, ⟨G, g2, d2, t2, os'⟩, _, .ref C, some d, rfl, J, kG, ge, hoe, ⟨rfl, rfl, fun vs z => by cases z; rfl⟩, rfl, rfl, na, rfl, bare2, raises_own T.exC T.tyC, q2⟩
  | .ok .next, got => exact got.elim
  | .ok .brk, got => exact got.elim
  | .ok .cont, got => exact got.elim

/-! in mirrors -/
/-- plain things whose repr is told -/
def shD : D → Bool
  | .int i => decide (i.natAbs.log2 < 1920)
  | .str y => decide (y.length ≤ 90000) && y.cps.toList.all fun c => decide (c < 16 ^ 8)
  | .bl _ => true
  | .non => true
  | _ => false
theorem shD_ok {P : Program} {w : World} {T : Tb} {wd : Wd} {H : Hp} {d : D} {v : V} (r : Rep T wd H d v) (h : shD d = true) (H' : Hp) : ShV P w H' v := by
  intro hh u _ rv
  cases d with
  | int i =>
    obtain rfl : v = .int i := r
    obtain ⟨t, rfl⟩ := rv
    exact Shw.int (of_decide_eq_true h)
  | str y =>
    obtain rfl : v = .str y := r
    obtain ⟨t, rfl⟩ := rv
    have h' : (decide (y.length ≤ 90000) && y.cps.toList.all fun c => decide (c < 16 ^ 8)) = true := h
    rw [Bool.and_eq_true] at h'
    have hl := StrLaws.reprText_len y fun c hc => of_decide_eq_true (List.all_eq_true.mp h'.2 c hc)
    have hy := of_decide_eq_true h'.1
    intro A E s Q hu h0 hq
    exact pyReprObj_str (hq _ _ _ s.heap (by omega) fun _ _ z => z) (by rw [sizeLine_eq]; omega)
  | bl b =>
    obtain rfl : v = .bl b := r
    obtain rfl : u = .bool b := rv
    intro A E s Q hu h0 hq
    exact pyReprObj_bool (hq _ _ _ s.heap (by cases b <;> decide) fun _ _ z => z)
  | non =>
    obtain rfl : v = .non := r
    obtain rfl : u = .none := rv
    intro A E s Q hu h0 hq
    exact pyReprObj_none (hq _ _ _ s.heap (by decide) fun _ _ z => z)
  | _ => cases h
/-- how an own exception is made: its name, its class, its fields -/
structure Xc (G : Gd) (x : Str) (c : Nat) (fs : List Str) (j : Nat) : Prop where
  T : OexC G.K (G.C c)
  gl : G.mg x = some (.ref (G.C c))
  few : fs.length ≤ 900
  ex : ∃ (fI : Addr) (fd : FuncData) (sf : Str), PySem.W.findIn G.K (.ref (G.C c)) "__init__" = some (some (.ref fI)) ∧ PySem.W.typeIn G.K (.ref fI) = some (.type "function") ∧
    FnOk G.P G.w G.K G.mg G.base (L2N.CX G.P G.w) j fI fd (sf :: fs) (spX (G.C c) fs (ShV G.P G.w)) ∧ Binds G.K fd (sf :: fs) []
def msRaise (c : Nat) (fs : List Str) (ma : MA) : MS := fun env st => (ma env st).to env fun ds st1 => if ds.length = fs.length ∧ ds.all shD = true then .exc c (fs.zip ds).reverse env st1 else .stuck
theorem repF_app {T : Tb} {w : Wd} {H : Hp} : ∀ {fs gs : List (Str × D)} {ws us : List (Str × V)}, RepF T w H fs ws → RepF T w H gs us → RepF T w H (fs ++ gs) (ws ++ us)
  | [], gs, ws, us, h, k => by rw [show ws = [] from h]; exact k
  | (f, d) :: fs, gs, ws, us, h, k => by
    obtain ⟨v, q, rfl, r1, r2⟩ := h
    exact ⟨v, q ++ us, rfl, r1, repF_app r2 k⟩
theorem repF_zip {T : Tb} {w : Wd} {H : Hp} : ∀ {fs : List Str} {ds : List D} {vs : List V}, Reps T w H ds vs → RepF T w H (fs.zip ds).reverse (fs.zip vs).reverse
  | [], ds, vs, h => rfl
  | f :: fs, [], vs, h => by rw [show vs = [] from h]; rfl
  | f :: fs, d :: ds, vs, h => by
    obtain ⟨v, q, rfl, r1, r2⟩ := h
    rw [List.zip_cons_cons, List.zip_cons_cons, List.reverse_cons, List.reverse_cons]
    exact repF_app (repF_zip r2) ⟨v, [], rfl, r1, rfl⟩
section
variable {G : Gd} {c : Ct} {k j : Nat} {W : St → XK}
theorem ds_raise {x : Str} {cn : Nat} {fs : List Str} {e : Expr} {es : List Expr} {m : MA} {p pos rpos : Pos} (F : Xc G x cn fs j) (hj : j + 1 ≤ k) (hg : c.sc.names.lookup x = some .globalImplicit) (ha : DA G c k W (e :: es) m)
    (hdb : (x == ("__debug__" : Str)) = false := by decide) (he : ∀ env, starEach (e :: es) env = (false, eval e env) :: starEach es env := by intro _; rfl) (hpl : ∀ env, (backTo pos (starEach es env)).any (·.1) = false := by intro _; rfl) :
    DS G c k W (.Raise (some (.Call (.Name x p) (e :: es) [] pos)) none rpos) (msRaise cn fs m) := by
  obtain ⟨fI, fd, sf, iC, tI, F1, F2⟩ := F.ex
  obtain ⟨t, h1, h2⟩ := ha
  refine ⟨fun _ σ H => tMkX G.P G.w (G.C cn) fs t σ H fun cls d H' => W σ cls d H', fun X h => ?_, fun as H σ env st D en w hp => ?_⟩
  · have T' : OexC X.K (G.C cn) := by rw [h.K]; exact F.T
    have F1' : FnOk X.prog X.w X.K X.mg X.base (L2N.CX X.prog X.w) j fI fd (sf :: fs) (spX (G.C cn) fs (ShV X.prog X.w)) := by
      rw [h.prog, h.wd, h.K, h.mg, h.base]; exact F1
    have q := L2N.ps_raise (pos := rpos) h.calm h.tk (pmk_x (x := x) (p := p) (pos := pos) T' (by rw [h.K]; exact iC) (by rw [h.K]; exact tI) F1' (h.room.mono hj) (by rw [h.K]; exact F2) (h.gl hg) (by rw [h.mg]; exact F.gl) F.few (h1 X h) hdb (he _) (hpl _))
    rw [h.prog, h.wd] at q
    exact q
  · refine h2 as H σ env st _ en w (PostS.imp en hp fun ds st1 w1 H1 vs _ s1 q1 r1 h3 => ?_)
    have lr := Reps.len r1
    split at h3
    · rename_i hc
      obtain ⟨hl, hs⟩ := hc
      refine ⟨by rw [← lr]; exact hl, fun a na v hv => ?_, fun d nd => ?_⟩
      · obtain ⟨i, hi⟩ := List.mem_iff_getElem?.mp hv
        obtain ⟨dd, hd, rd⟩ := reps_get' r1 hi
        exact shD_ok rd (List.all_eq_true.mp hs dd (List.mem_of_getElem? hd)) _
      · exact h3 w1 _ σ (.ref (G.C cn)) (some d) (.node nd) (q1.node nd) ((en.mono s1).mono (.node nd)) ⟨rfl, d, _, rfl, q1.new nd, upd_same, RepF.mono (.node nd) _ _ (repF_zip r1)⟩
    · exact h3.elim
end
end DL
end
section
set_option Elab.async false
set_option linter.all false
set_option maxRecDepth 100000
set_option maxHeartbeats 2000000
namespace DL
open PySem L2

/-! ### except suites: the caught exception stands in slot i; its class and fields are told to the mirrors -/
abbrev MX (α : Type) := Nat → List (Str × D) → α
section
variable {T : Tb} {w w2 : Wd} {H H' : Hp}
theorem XRep.mono {c : Nat} {fs : List (Str × D)} {cls : Value} {d : Option Addr} (x : Step w H w2 H') (h : XRep T w H c fs cls d) : XRep T w2 H' c fs cls d := by
  obtain ⟨e, dd, ws, e2, ok, hx, r⟩ := h
  exact ⟨e, dd, ws, e2, x.ok ok hx, x.keep _ _ ok.1 hx, RepF.mono x _ _ r⟩
end
/-- what is known throughout a suite -/
structure Hv (T : Tb) (i : Nat) (a : Addr) (cls : Value) (d : Option Addr) (cn : Nat) (fs : List (Str × D)) (w : Wd) (H : Hp) (σ : St) : Prop where
  sl : σ[i]? = some (some (.ref a))
  x : XRep T w H cn fs cls d
theorem Hv.mono {T : Tb} {i : Nat} {a : Addr} {cls : Value} {d : Option Addr} {cn : Nat} {fs : List (Str × D)} {w w2 : Wd} {H H' : Hp} {σ : St} (s : Step w H w2 H') (h : Hv T i a cls d cn fs w H σ) : Hv T i a cls d cn fs w2 H' σ := ⟨h.sl, h.x.mono s⟩
abbrev TX (α : Type) := Addr → Value → Option Addr → α
def SimXE (T : Tb) (i : Nat) (t : TX TE) (m : MX ME) : Prop := ∀ a cls d cn fs w H σ env st Q, EnvR T w H env σ → WH T w H st → Hv T i a cls d cn fs w H σ → Post T (Rep T) w H (m cn fs env st) Q E0 → t a cls d σ H Q
def SimXA (T : Tb) (i : Nat) (t : TX TA) (m : MX MA) : Prop := ∀ a cls d cn fs w H σ env st Q, EnvR T w H env σ → WH T w H st → Hv T i a cls d cn fs w H σ → Post T (Reps T) w H (m cn fs env st) Q E0 → t a cls d σ H Q
def SimXT (T : Tb) (i : Nat) (t : TX TT) (m : MX MT) : Prop := ∀ a cls d cn fs w H σ env st Q, EnvR T w H env σ → WH T w H st → Hv T i a cls d cn fs w H σ → Post T RB w H (m cn fs env st) Q E0 → t a cls d σ H Q
/-- as PostS; the exception stays in its slot -/
def PostX (T : Tb) (i : Nat) (a : Addr) (w : Wd) (H : Hp) (r : SRes) (D : Ends) : Prop := match r with
  | .fl (.nx env) st => ∀ w2 H' σ, Step w H w2 H' → WH T w2 H' st → EnvR T w2 H' env σ → σ[i]? = some (some (.ref a)) → D.nx σ H'
  | .fl (.rt d) st => ∀ w2 H' v, Step w H w2 H' → WH T w2 H' st → Rep T w2 H' d v → D.rt v H'
  | .fl (.bk env) st => ∀ w2 H' σ, Step w H w2 H' → WH T w2 H' st → EnvR T w2 H' env σ → σ[i]? = some (some (.ref a)) → D.bk σ H'
  | .fl (.ct env) st => ∀ w2 H' σ, Step w H w2 H' → WH T w2 H' st → EnvR T w2 H' env σ → σ[i]? = some (some (.ref a)) → D.ct σ H'
  | .exc _ _ _ _ => False
  | .stuck => False
theorem PostX.mono {T : Tb} {i : Nat} {a : Addr} {w w2 : Wd} {H H' : Hp} {r : SRes} {D : Ends} (x : Step w H w2 H') (h : PostX T i a w H r D) : PostX T i a w2 H' r D := by
  cases r with
  | fl f st =>
    cases f with
    | nx env => exact fun a2 H2 v s q e => h a2 H2 v (x.trans s) q e
    | rt d => exact fun a2 H2 v s q e => h a2 H2 v (x.trans s) q e
    | bk env => exact fun a2 H2 v s q e => h a2 H2 v (x.trans s) q e
    | ct env => exact fun a2 H2 v s q e => h a2 H2 v (x.trans s) q e
  | exc c fs env st => exact h
  | stuck => exact h
theorem PostX.imp {α β : Type} {T : Tb} {R : Wd → Hp → α → β → Prop} {i : Nat} {a : Addr} {w : Wd} {H : Hp} {env : DEnv} {r : Res α} {k : α → Store → SRes} {D : Ends} {Q' : β → Hp → Prop}
    (h : PostX T i a w H (r.to env k) D) (hk : ∀ x st w2 H' v, r = .ok x st → Step w H w2 H' → WH T w2 H' st → R w2 H' x v → PostX T i a w2 H' (k x st) D → Q' v H') : Post T R w H r Q' E0 := by
  cases r with
  | ok x st => exact fun a2 H2 v s q r => hk x st a2 H2 v rfl s q r (PostX.mono (r := k x st) s h)
  | exc c fs st => exact h.elim
  | stuck => exact h.elim
def SimXS (T : Tb) (i : Nat) (t : TX TS) (m : MX MS) : Prop := ∀ a cls d cn fs w H σ env st D, EnvR T w H env σ → WH T w H st → Hv T i a cls d cn fs w H σ → PostX T i a w H (m cn fs env st) D → t a cls d D σ H

/-- the context of a suite -/
structure Su (G : Gd) (c : Ct) (k : Nat) (X : Cx) (a : Addr) (oe : Obj) (cls : Value) (d : Option Addr) : Prop where
  inn : ∃ W, In G c k W X
  zn : L2N.Zn cls d oe
  fl : ∃ vs, oe.data = .fields vs
def HE (G : Gd) (c : Ct) (k i : Nat) (e : Expr) (m : MX ME) : Prop := ∃ t : TX TE, (∀ X a oe cls d pn, Su G c k X a oe cls d → PE (X.suite a ((a, oe) :: pn)) e (t a cls d)) ∧ SimXE G.T i t m
def HA (G : Gd) (c : Ct) (k i : Nat) (es : List Expr) (m : MX MA) : Prop := ∃ t : TX TA, (∀ X a oe cls d pn, Su G c k X a oe cls d → PA (X.suite a ((a, oe) :: pn)) es (t a cls d)) ∧ SimXA G.T i t m
def HT (G : Gd) (c : Ct) (k i : Nat) (e : Expr) (m : MX MT) : Prop := ∃ t : TX TT, (∀ X a oe cls d pn, Su G c k X a oe cls d → PT (X.suite a ((a, oe) :: pn)) e (t a cls d)) ∧ SimXT G.T i t m
def HW (G : Gd) (c : Ct) (k i : Nat) (e : Expr) (m : MX MT) : Prop := ∃ t : TX TT, (∀ X a oe cls d pn, Su G c k X a oe cls d → PW (X.suite a ((a, oe) :: pn)) e (t a cls d)) ∧ SimXT G.T i t m
def HS (G : Gd) (c : Ct) (k i : Nat) (s : Stmt) (m : MX MS) : Prop := ∃ t : TX TS, (∀ X a oe cls d pn, Su G c k X a oe cls d → PS (X.suite a ((a, oe) :: pn)) s (t a cls d)) ∧ SimXS G.T i t m
def HSs (G : Gd) (c : Ct) (k i : Nat) (s : List Stmt) (m : MX MS) : Prop := ∃ t : TX TS, (∀ X a oe cls d pn, Su G c k X a oe cls d → PSs (X.suite a ((a, oe) :: pn)) s (t a cls d)) ∧ SimXS G.T i t m

section
variable {G : Gd} {c : Ct} {k i : Nat} {e b : Expr} {es rest : List Expr} {m mb : MX ME} {ma : MX MA} {mt mu : MX MT} {pos : Pos}
theorem Su.N {X : Cx} {a : Addr} {oe : Obj} {cls : Value} {d : Option Addr} (h : Su G c k X a oe cls d) : X.N = c.N := by obtain ⟨W, h⟩ := h.inn; exact h.N
theorem Su.sc {X : Cx} {a : Addr} {oe : Obj} {cls : Value} {d : Option Addr} (h : Su G c k X a oe cls d) : X.env.scope = c.sc := by obtain ⟨W, h⟩ := h.inn; exact h.sc
theorem Su.K {X : Cx} {a : Addr} {oe : Obj} {cls : Value} {d : Option Addr} (h : Su G c k X a oe cls d) : X.K = G.K := by obtain ⟨W, h⟩ := h.inn; exact h.K
theorem Su.mg {X : Cx} {a : Addr} {oe : Obj} {cls : Value} {d : Option Addr} (h : Su G c k X a oe cls d) : X.mg = G.mg := by obtain ⟨W, h⟩ := h.inn; exact h.mg
theorem Su.gl {X : Cx} {a : Addr} {oe : Obj} {cls : Value} {d : Option Addr} (h : Su G c k X a oe cls d) {x : Str} (hg : c.sc.names.lookup x = some .globalImplicit) : Gl X x := by obtain ⟨W, h⟩ := h.inn; exact h.gl hg
theorem he_var (j : Nat) {x : Str} (hN : c.N[j]? = some x := by rfl) (hv : Vis c.sc x := by first | exact Or.inl rfl | exact Or.inr (Or.inl rfl) | exact Or.inr (Or.inr rfl)) (hd : (x == ("__debug__" : Str)) = false := by decide)
    (hcd : (x == ("__classdict__" : Str)) = false := by decide) : HE G c k i (.Name x pos) (fun _ _ => mVar j) :=
  ⟨fun _ _ _ => tVar j, fun X a oe cls d pn h => pe_var (by show X.N[j]? = _; rw [h.N]; exact hN) (by show Vis X.env.scope x; rw [h.sc]; exact hv) hd hcd, fun a cls d cn fs w H σ env st Q e q hv h => sim_var (W := fun _ => E0) w H σ env st Q e q h⟩
theorem he_c {v : V} {dd : D} {ex : Expr} (hp : ∀ X : Cx, PE X ex (tC v)) (hr : ∀ w H, Rep G.T w H dd v) : HE G c k i ex (fun _ _ => mC dd) :=
  ⟨fun _ _ _ => tC v, fun X a oe cls d pn h => hp _, fun a cls d cn fs w H σ env st Q e q hv h => sim_c (W := fun _ => E0) hr w H σ env st Q e q h⟩
theorem he_int {n j} : HE G c k i (.Constant (.int n) j pos) (fun _ _ => mC (.int n)) := he_c (fun X => pe_int) fun _ _ => rfl
theorem he_bl {n j} : HE G c k i (.Constant (.bool n) j pos) (fun _ _ => mC (.bl n)) := he_c (fun X => pe_bl) fun _ _ => rfl
theorem he_non {j} : HE G c k i (.Constant .none j pos) (fun _ _ => mC .non) := he_c (fun X => pe_non) fun _ _ => rfl
theorem he_str {x j} : HE G c k i (.Constant (.str x) j pos) (fun _ _ => mC (.str x)) := he_c (fun X => pe_str) fun _ _ => rfl
theorem ha_nil : HA G c k i [] (fun _ _ => mNil) := ⟨fun _ _ _ => tNil, fun X a oe cls d pn h => pa_nil, fun a cls d cn fs w H σ env st Q e q hv h => sim_nil (W := fun _ => E0) w H σ env st Q e q h⟩
theorem ha_cons (h1 : HE G c k i e m) (h2 : HA G c k i es ma) (hp : plainE e = true := by rfl) : HA G c k i (e :: es) (fun cn fs => mCons (m cn fs) (ma cn fs)) := by
  obtain ⟨t, a1, a2⟩ := h1
  obtain ⟨u, b1, b2⟩ := h2
  refine ⟨fun a cls d => tCons (t a cls d) (u a cls d), fun X a oe cls d pn h => pa_cons (a1 X a oe cls d pn h) (b1 X a oe cls d pn h) (star_of hp), fun a cls d cn fs w H σ env st Q e q hv h => ?_⟩
  refine a2 a cls d cn fs w H σ env st _ e q hv (Post.imp h fun x st1 w1 H1 v _ s1 q1 r1 h1 => ?_)
  refine b2 a cls d cn fs w1 H1 σ env st1 _ (e.mono s1) q1 (hv.mono s1) (Post.imp h1 fun xs st2 w2 H2 vs _ s2 q2 r2 h2 => ?_)
  exact h2 w2 H2 (v :: vs) .refl q2 ⟨v, vs, rfl, Rep.mono s2 _ _ r1, r2⟩
theorem he_tup {x1} (h2 : HA G c k i es ma) : HE G c k i (.Tuple es x1 pos) (fun cn fs => mTup (ma cn fs)) := by
  obtain ⟨u, b1, b2⟩ := h2
  refine ⟨fun a cls d => tTup (u a cls d), fun X a oe cls d pn h => pe_tup (b1 X a oe cls d pn h), fun a cls d cn fs w H σ env st Q e q hv h => ?_⟩
  exact b2 a cls d cn fs w H σ env st _ e q hv (Post.imp h fun ds st1 w1 H1 xs _ s1 q1 r1 h1 => post_tup r1 q1 h1)
/-! tests -/
theorem ht_val (h1 : HE G c k i e m) (hp : plainT e = true := by rfl) : HT G c k i e (fun cn fs => mTest (m cn fs)) := by
  obtain ⟨t, a1, a2⟩ := h1
  refine ⟨fun a cls d => tB (t a cls d), fun X a oe cls d pn h => pt_val (a1 X a oe cls d pn h) (plain_true hp), fun a cls d cn fs w H σ env st Q e q hv h => ?_⟩
  refine a2 a cls d cn fs w H σ env st _ e q hv (Post.imp h fun x st1 w1 H1 v _ s1 q1 r1 h1 => ?_)
  cases x with
  | bl b => exact ⟨b, r1, h1 w1 H1 b .refl q1 rfl⟩
  | _ => exact h1.elim
theorem ht_of (h : HW G c k i e mt) : HT G c k i e mt := by
  obtain ⟨t, a1, a2⟩ := h
  exact ⟨t, fun X a oe cls d pn h => (a1 X a oe cls d pn h).pt, a2⟩
theorem ht_not (h : HT G c k i e mt) : HT G c k i (.UnaryOp .Not e pos) (fun cn fs => mNot (mt cn fs)) := by
  obtain ⟨t, a1, a2⟩ := h
  refine ⟨fun a cls d => tNot (t a cls d), fun X a oe cls d pn h => pt_not (a1 X a oe cls d pn h), fun a cls d cn fs w H σ env st Q e q hv h => ?_⟩
  refine a2 a cls d cn fs w H σ env st _ e q hv (Post.imp h fun x st1 w1 H1 v _ s1 q1 r1 h1 => ?_)
  cases r1
  exact h1 w1 H1 (!x) .refl q1 rfl
theorem hw_and1 (h : HT G c k i e mt) : HW G c k i (.BoolOp .And [e] pos) mt := by
  obtain ⟨t, a1, a2⟩ := h
  exact ⟨t, fun X a oe cls d pn h => pw_and1 (a1 X a oe cls d pn h), a2⟩
theorem hw_or1 (h : HT G c k i e mt) : HW G c k i (.BoolOp .Or [e] pos) mt := by
  obtain ⟨t, a1, a2⟩ := h
  exact ⟨t, fun X a oe cls d pn h => pw_or1 (a1 X a oe cls d pn h), a2⟩
theorem hw_and (h : HT G c k i e mt) (g : HW G c k i (.BoolOp .And (b :: rest) pos) mu) : HW G c k i (.BoolOp .And (e :: b :: rest) pos) (fun cn fs => mAnd (mt cn fs) (mu cn fs)) := by
  obtain ⟨t, a1, a2⟩ := h
  obtain ⟨u, b1, b2⟩ := g
  refine ⟨fun a cls d => tAnd (t a cls d) (u a cls d), fun X a oe cls d pn h => pw_and (a1 X a oe cls d pn h) (b1 X a oe cls d pn h), fun a cls d cn fs w H σ env st Q e q hv h => ?_⟩
  refine a2 a cls d cn fs w H σ env st _ e q hv (Post.imp h fun x st1 w1 H1 v _ s1 q1 r1 h1 => ?_)
  cases r1
  cases x with
  | true => exact b2 a cls d cn fs w1 H1 σ env st1 Q (e.mono s1) q1 (hv.mono s1) h1
  | false => exact h1 w1 H1 false .refl q1 rfl
theorem hw_or (h : HT G c k i e mt) (g : HW G c k i (.BoolOp .Or (b :: rest) pos) mu) : HW G c k i (.BoolOp .Or (e :: b :: rest) pos) (fun cn fs => mOr (mt cn fs) (mu cn fs)) := by
  obtain ⟨t, a1, a2⟩ := h
  obtain ⟨u, b1, b2⟩ := g
  refine ⟨fun a cls d => tOr (t a cls d) (u a cls d), fun X a oe cls d pn h => pw_or (a1 X a oe cls d pn h) (b1 X a oe cls d pn h), fun a cls d cn fs w H σ env st Q e q hv h => ?_⟩
  refine a2 a cls d cn fs w H σ env st _ e q hv (Post.imp h fun x st1 w1 H1 v _ s1 q1 r1 h1 => ?_)
  cases r1
  cases x with
  | false => exact b2 a cls d cn fs w1 H1 σ env st1 Q (e.mono s1) q1 (hv.mono s1) h1
  | true => exact h1 w1 H1 true .refl q1 rfl
/-! and, or, not as values; a choice -/
theorem he_one {op} (h : HE G c k i e m) : HE G c k i (.BoolOp op [e] pos) m := by
  obtain ⟨t, a1, a2⟩ := h
  exact ⟨t, fun X a oe cls d pn h => pe_one (a1 X a oe cls d pn h), a2⟩
theorem he_and (h : HE G c k i e m) (g : HE G c k i (.BoolOp .And (b :: rest) pos) mb) : HE G c k i (.BoolOp .And (e :: b :: rest) pos) (fun cn fs => mAndV (m cn fs) (mb cn fs)) := by
  obtain ⟨t, a1, a2⟩ := h
  obtain ⟨u, b1, b2⟩ := g
  refine ⟨fun a cls d => tAndV (t a cls d) (u a cls d), fun X a oe cls d pn h => pe_and (a1 X a oe cls d pn h) (b1 X a oe cls d pn h), fun a cls d cn fs w H σ env st Q e q hv h => ?_⟩
  refine a2 a cls d cn fs w H σ env st _ e q hv (Post.imp h fun x st1 w1 H1 v _ s1 q1 r1 h1 => ?_)
  cases x with
  | bl x =>
    refine ⟨x, r1, ?_⟩
    cases x with
    | true => exact b2 a cls d cn fs w1 H1 σ env st1 Q (e.mono s1) q1 (hv.mono s1) h1
    | false => exact h1 w1 H1 (.bl false) .refl q1 rfl
  | _ => exact h1.elim
theorem he_or (h : HE G c k i e m) (g : HE G c k i (.BoolOp .Or (b :: rest) pos) mb) : HE G c k i (.BoolOp .Or (e :: b :: rest) pos) (fun cn fs => mOrV (m cn fs) (mb cn fs)) := by
  obtain ⟨t, a1, a2⟩ := h
  obtain ⟨u, b1, b2⟩ := g
  refine ⟨fun a cls d => tOrV (t a cls d) (u a cls d), fun X a oe cls d pn h => pe_or (a1 X a oe cls d pn h) (b1 X a oe cls d pn h), fun a cls d cn fs w H σ env st Q e q hv h => ?_⟩
  refine a2 a cls d cn fs w H σ env st _ e q hv (Post.imp h fun x st1 w1 H1 v _ s1 q1 r1 h1 => ?_)
  cases x with
  | bl x =>
    refine ⟨x, r1, ?_⟩
    cases x with
    | false => exact b2 a cls d cn fs w1 H1 σ env st1 Q (e.mono s1) q1 (hv.mono s1) h1
    | true => exact h1 w1 H1 (.bl true) .refl q1 rfl
  | _ => exact h1.elim
theorem he_not (h : HE G c k i e m) : HE G c k i (.UnaryOp .Not e pos) (fun cn fs => mNotV (m cn fs)) := by
  obtain ⟨t, a1, a2⟩ := h
  refine ⟨fun a cls d => tNotV (t a cls d), fun X a oe cls d pn h => pe_not (a1 X a oe cls d pn h), fun a cls d cn fs w H σ env st Q e q hv h => ?_⟩
  refine a2 a cls d cn fs w H σ env st _ e q hv (Post.imp h fun x st1 w1 H1 v _ s1 q1 r1 h1 => ?_)
  cases x with
  | bl x => exact ⟨x, r1, h1 w1 H1 (.bl (!x)) .refl q1 rfl⟩
  | _ => exact h1.elim
theorem he_if {ce : Expr} (hc : HT G c k i ce mt) (h : HE G c k i e m) (g : HE G c k i b mb) : HE G c k i (.IfExp ce e b pos) (fun cn fs => mIf (mt cn fs) (m cn fs) (mb cn fs)) := by
  obtain ⟨v, c1, c2⟩ := hc
  obtain ⟨t, a1, a2⟩ := h
  obtain ⟨u, b1, b2⟩ := g
  refine ⟨fun a cls d => tIf (v a cls d) (t a cls d) (u a cls d), fun X a oe cls d pn h => pe_ifExp (c1 X a oe cls d pn h) (a1 X a oe cls d pn h) (b1 X a oe cls d pn h), fun a cls d cn fs w H σ env st Q e q hv h => ?_⟩
  refine c2 a cls d cn fs w H σ env st _ e q hv (Post.imp h fun x st1 w1 H1 v _ s1 q1 r1 h1 => ?_)
  cases r1
  cases x with
  | true => exact a2 a cls d cn fs w1 H1 σ env st1 Q (e.mono s1) q1 (hv.mono s1) h1
  | false => exact b2 a cls d cn fs w1 H1 σ env st1 Q (e.mono s1) q1 (hv.mono s1) h1
/-! statements -/
variable {s : Stmt} {ss sa sb : List Stmt} {ms mr : MX MS}
theorem hs_ret (h : HE G c k i e m) : HS G c k i (.Return (some e) pos) (fun cn fs => msRet (m cn fs)) := by
  obtain ⟨t, a1, a2⟩ := h
  refine ⟨fun a cls d => tRet (t a cls d), fun X a oe cls d pn h => ps_ret (a1 X a oe cls d pn h), fun a cls d cn fs w H σ env st D e q hv h => ?_⟩
  exact a2 a cls d cn fs w H σ env st _ e q hv (PostX.imp h fun x st1 w1 H1 v _ s1 q1 r1 h1 => h1 w1 H1 v .refl q1 r1)
theorem hs_pass : HS G c k i (.Pass pos) (fun _ _ => msNext) := ⟨fun _ _ _ => tNext, fun X a oe cls d pn h => ps_pass, fun a cls d cn fs w H σ env st D e q hv h => h w H σ .refl q e hv.sl⟩
theorem hs_continue : HS G c k i (.Continue pos) (fun _ _ => msCt) := ⟨fun _ _ _ => tCont, fun X a oe cls d pn h => ps_continue, fun a cls d cn fs w H σ env st D e q hv h => h w H σ .refl q e hv.sl⟩
theorem hss_nil : HSs G c k i [] (fun _ _ => msNext) := ⟨fun _ _ _ => tNext, fun X a oe cls d pn h => pss_nil, fun a cls d cn fs w H σ env st D e q hv h => h w H σ .refl q e hv.sl⟩
theorem hss_one (h : HS G c k i s ms) : HSs G c k i [s] ms := by
  obtain ⟨t, a1, a2⟩ := h
  exact ⟨t, fun X a oe cls d pn h => pss_one (a1 X a oe cls d pn h), a2⟩
theorem hss_cons (h : HS G c k i s ms) (g : HSs G c k i ss mr) : HSs G c k i (s :: ss) (fun cn fs => msSeq (ms cn fs) (mr cn fs)) := by
  obtain ⟨t, a1, a2⟩ := h
  obtain ⟨u, b1, b2⟩ := g
  refine ⟨fun a cls d => tSeq (t a cls d) (u a cls d), fun X a oe cls d pn h => pss_cons (a1 X a oe cls d pn h) (b1 X a oe cls d pn h), fun a cls d cn fs w H σ env st D e q hv h => ?_⟩
  refine a2 a cls d cn fs w H σ env st { D with nx := u a cls d D } e q hv ?_
  have h : PostX G.T i a w H (match ms cn fs env st with | .fl (.nx env1) st1 => mr cn fs env1 st1 | r => r) D := h
  cases z : ms cn fs env st with
  | fl f st1 =>
    rw [z] at h
    cases f with
    | nx env1 => exact fun w2 H' σ' s' q' e' sl => b2 a cls d cn fs w2 H' σ' env1 st1 D e' q' ⟨sl, hv.x.mono s'⟩ (h.mono s')
    | rt d => exact h
    | bk env1 => exact h
    | ct env1 => exact h
  | exc c fs env1 st1 => rw [z] at h; exact h
  | stuck => rw [z] at h; exact h
theorem hs_if {ce : Expr} (hc : HT G c k i ce mt) (h : HSs G c k i sa ms) (g : HSs G c k i sb mr) : HS G c k i (.If ce sa sb pos) (fun cn fs => msIf (mt cn fs) (ms cn fs) (mr cn fs)) := by
  obtain ⟨v, c1, c2⟩ := hc
  obtain ⟨t, a1, a2⟩ := h
  obtain ⟨u, b1, b2⟩ := g
  refine ⟨fun a cls d => tIfS (v a cls d) (t a cls d) (u a cls d), fun X a oe cls d pn h => ps_if (c1 X a oe cls d pn h) (a1 X a oe cls d pn h) (b1 X a oe cls d pn h), fun a cls d cn fs w H σ env st D e q hv h => ?_⟩
  refine c2 a cls d cn fs w H σ env st _ e q hv (PostX.imp h fun x st1 w1 H1 v _ s1 q1 r1 h1 => ?_)
  cases r1
  cases x with
  | true => exact a2 a cls d cn fs w1 H1 σ env st1 D (e.mono s1) q1 (hv.mono s1) h1
  | false => exact b2 a cls d cn fs w1 H1 σ env st1 D (e.mono s1) q1 (hv.mono s1) h1
/-- name = e, another name than the exception's -/
theorem hs_set {j : Nat} {x : Str} {pos' : Pos} (hj : i ≠ j) (hi : c.N[j]? = some x) (hx : c.sc.names.lookup x = some .local ∨ (c.sc.names.lookup x = some .cell ∧ c.fn x = true)) (nd : c.N.Nodup) (h : HE G c k i e m)
    (hs : ∀ env, swapsWith e (some (.Name x pos')) pos.line env = pure false := by intro _; rfl) : HS G c k i (.Assign [.Name x pos'] e pos) (fun cn fs => msSet j (m cn fs)) := by
  obtain ⟨t, a1, a2⟩ := h
  refine ⟨fun a cls d => tAsg (t a cls d) (gName j), fun X a oe cls d pn h => ?_, fun a cls d cn fs w H σ env st D e q hv h => ?_⟩
  · obtain ⟨W, h0⟩ := h.inn
    exact ps_set (X := X.suite a ((a, oe) :: pn)) (by show X.N.Nodup; rw [h.N]; exact nd) (by show X.N[j]? = _; rw [h.N]; exact hi) (loc_of h0 hx).1 (a1 X a oe cls d pn h) (hs _) (loc_of h0 hx).2
  · refine a2 a cls d cn fs w H σ env st _ e q hv (PostX.imp h fun x st1 w1 H1 v _ s1 q1 r1 h1 => ?_)
    exact h1 w1 H1 _ .refl q1 ((e.mono s1).set j r1) (by rw [List.getElem?_set_ne (Ne.symm hj)]; exact hv.sl)
end
end DL
end
section
set_option Elab.async false
set_option linter.all false
set_option maxRecDepth 100000
set_option maxHeartbeats 2000000
namespace DL
open PySem L2

/-! ### the caught exception's fields, its class; try .. except C as n -/
/-- what the text has of the own exception classes n, .., N - 1: S a b, whether a is b or below it; L: their fields -/
structure Ef (G : Gd) (n N : Nat) (S : Nat → Nat → Bool) (L : List Str) : Prop where
  ec : ∀ c, n ≤ c → c < N → ExcC G.K (G.C c)
  nf : ∀ c, n ≤ c → c < N → ∀ f ∈ L, PySem.W.findIn G.K (.ref (G.C c)) f = some none
  ks : ∀ a b, n ≤ a → a < N → n ≤ b → b < N → PySem.W.kitOne G.K (.ref (G.C a)) (.ref (G.C b)) = some (S a b)
  kv : ∀ a, n ≤ a → a < N → PySem.W.kitOne G.K (.ref (G.C a)) (.type "ValueError") = some true
  em : ∀ a b, n ≤ a → a < N → n ≤ b → b < N → PySem.W.exmOne G.K (.ref (G.C a)) (.ref (G.C b)) = some (S a b)
theorem ExcC.xf {K : PySem.W.Frag} {C : Addr} (h : ExcC K C) : XfC K C := ⟨h.hg, h.hk, h.hs, h.hd⟩
/-- isinstance(e, c), e the exception of a suite -/
def rIsX (K : PySem.W.Frag) (a : Addr) (cls : Value) (d : Option Addr) : List V → Hp → VK → Prop := fun xs H Q => ∃ (D dd : Addr) (fs : List (Str × V)) (cc : V) (cv : Value) (b : Bool), cls = .ref D ∧ ExcC K D ∧ d = some dd ∧ H dd = some (.xd fs) ∧ xs = [.ref a, cc] ∧
  (∀ u, RelV cc u → u = cv) ∧ PySem.W.kitOne K (.ref D) cv = some b ∧ Q (.bl b) H
theorem call_isX {X : Cx} {a : Addr} {oe : Obj} {cls : Value} {d : Option Addr} {pn : List (Addr × Obj)} (hz : Zc cls d oe) (hf : ∃ vs, oe.data = .fields vs) : CallR (X.suite a ((a, oe) :: pn)) (.builtin "isinstance") (rIsX X.K a cls d) := by
  intro pins s σ H xs us Q I r h
  obtain ⟨D, dd, fs, cc, cv, b, rfl, C, rfl, ed, rfl, hcv, hk, q⟩ := h
  cases r with
  | cons rx rr =>
    cases rr with
    | cons rt rr =>
      cases rr
      cases rx
      obtain rfl := hcv _ rt
      obtain ⟨there, _⟩ := I.pin (a, oe) (List.mem_append.mpr (.inl List.mem_cons_self))
      obtain ⟨vs, hv⟩ := hf
      have hx : ObjOk X.prog X.w H s.heap dd (.xd fs) := I.hok dd _ ed
      obtain ⟨mA, hns, hr⟩ := hx
      obtain ⟨od, ho, _⟩ := lookIn_ns hns
      have J : PySem.W.InstAt s.heap a oe D (some od) := ⟨there, hz.1, by unfold PySem.W.notCls; rw [hv] <;> rfl, by rw [hz.2]; exact ho⟩
      have hcl : (PySem.W.clsIn X.K D).isSome = true := by
        obtain ⟨cd, hc, _⟩ := PySem.W.any_some C.hd
        rw [hc]; rfl
      exact PySem.W.kia_one (PySem.W.kitx_exc hcl C.hg C.hk C.hs C.ha C.hn C.ht C.hm) I.kIn J hk (fun z => nomatch z) fun tk => ⟨.bl b, H, I.kept (t' := tk) fun _ _ z => z, rfl, q⟩
section
variable {G : Gd} {n N : Nat} {S : Nat → Nat → Bool} {L : List Str} {c : Ct} {k i : Nat} {pos p p1 p2 : Pos}
def mXf (n N : Nat) (L : List Str) (f : Str) : MX ME := fun cn fs _ st => if n ≤ cn ∧ cn < N ∧ f ∈ L then (match fs.lookup f with
  | some d => .ok d st
  | none => .stuck) else .stuck
/-- e.f, e the exception -/
theorem he_fld (E : Ef G n N S L) {x f : Str} (hN : c.N[i]? = some x) (hv : Vis c.sc x := by first | exact Or.inl rfl | exact Or.inr (Or.inl rfl) | exact Or.inr (Or.inr rfl)) (hd : (x == ("__debug__" : Str)) = false := by decide)
    (hcd : (x == ("__classdict__" : Str)) = false := by decide) (hb : ∀ env, attributeBase (.Name x p1) f env (eval (.Name x p1) env) = eval (.Name x p1) env := by intro _; rfl) : HE G c k i (.Attribute (.Name x p1) f pos) (mXf n N L f) := by
  refine ⟨fun a cls d σ H Q => ∃ cn, n ≤ cn ∧ cn < N ∧ f ∈ L ∧ tXf a cls d (G.C cn) f (tVar i) σ H Q, fun X a oe cls d pn h => ⟨fun pins s σ H Q I q => ?_⟩, fun a cls d cn fs w H σ env st Q e q hv h => ?_⟩
  · obtain ⟨cn, h1, h2, hf, q⟩ := q
    have he : PE (X.suite a ((a, oe) :: pn)) (.Name x p1) (tVar i) := pe_var (by show X.N[i]? = _; rw [h.N]; exact hN) (by show Vis X.env.scope x; rw [h.sc]; exact hv) hd hcd
    have T : XfC X.K (G.C cn) := by rw [h.K]; exact (ExcC.xf (E.ec cn h1 h2))
    exact (pe_xf T (by rw [h.K]; exact E.nf cn h1 h2 f hf) h.zn.zc h.fl he (hb _)).run pins s σ H Q I q
  · unfold mXf at h
    split at h
    · rename_i hc
      obtain ⟨h1, h2, hf⟩ := hc
      split at h
      · rename_i dd hl
        obtain ⟨ec, d0, ws, ed, ok, hx, rr⟩ := hv.x
        obtain ⟨v, hv', rv⟩ := repF_get rr hl
        exact ⟨cn, h1, h2, hf, .ref a, hv.sl, rfl, ec, d0, ws, v, ed, hx, hv', h w H v .refl q rv⟩
      · exact h.elim
    · exact h.elim
/-- isinstance(e, C) of an own exception class, of ValueError -/
def mXis (n N : Nat) (S : Nat → Nat → Bool) (cx : Nat) : MX ME := fun cn _ _ st => if n ≤ cn ∧ cn < N ∧ n ≤ cx ∧ cx < N then .ok (.bl (S cn cx)) st else .stuck
def mXisV (n N : Nat) : MX ME := fun cn _ _ st => if n ≤ cn ∧ cn < N then .ok (.bl true) st else .stuck
theorem he_isx {x : Str} {cv : V} {cw : Value} {ce : Expr} {m : MX ME} (hm : G.mg "isinstance" = none) (hg : c.sc.names.lookup ("isinstance" : Str) = some .globalImplicit) (hN : c.N[i]? = some x) (hcr : ∀ u, RelV cv u → u = cw)
    (hce : ∀ X a oe cls d pn, Su G c k X a oe cls d → PE (X.suite a ((a, oe) :: pn)) ce (tC cv)) (hmx : ∀ cn fs env st (w : Wd) H Q, Post G.T (Rep G.T) w H (m cn fs env st) Q E0 → ∃ b, ExcC G.K (G.C cn) ∧ PySem.W.kitOne G.K (.ref (G.C cn)) cw = some b ∧ (WH G.T w H st → Q (.bl b) H))
    (hv : Vis c.sc x := by first | exact Or.inl rfl | exact Or.inr (Or.inl rfl) | exact Or.inr (Or.inr rfl)) (hd : (x == ("__debug__" : Str)) = false := by decide) (hcd : (x == ("__classdict__" : Str)) = false := by decide)
    (he2 : ∀ env, starEach [ce] env = (false, eval ce env) :: starEach [] env := by intro _; rfl) (he : ∀ env, starEach [.Name x p1, ce] env = (false, eval (.Name x p1) env) :: starEach [ce] env := by intro _; rfl)
    (hpl : ∀ env, (backTo pos (starEach [ce] env)).any (·.1) = false := by intro _; rfl) : HE G c k i (.Call (.Name "isinstance" p) [.Name x p1, ce] [] pos) m := by
  refine ⟨fun a cls d => tCB (rIsX G.K a cls d) (tCons (tVar i) (tCons (tC cv) tNil)), fun X a oe cls d pn h => ?_, fun a cls d cn fs w H σ env st Q e q hv h => ?_⟩
  · have hx : PE (X.suite a ((a, oe) :: pn)) (.Name x p1) (tVar i) := pe_var (by show X.N[i]? = _; rw [h.N]; exact hN) (by show Vis X.env.scope x; rw [h.sc]; exact hv) hd hcd
    have cr := call_isX (X := X) (a := a) (pn := pn) h.zn.zc h.fl
    rw [h.K] at cr
    exact pe_callB (X := X.suite a ((a, oe) :: pn)) cr (h.gl hg) (by show X.mg _ = _; rw [h.mg]; exact hm) (by decide +kernel) (pa_cons hx (pa_cons (hce X a oe cls d pn h) pa_nil (he2 _)) (he _)) (by decide) (by decide) (he _) (hpl _)
  · obtain ⟨ec, d0, ws, ed, ok, hx, rr⟩ := hv.x
    obtain ⟨b, C, hk, hq⟩ := hmx cn fs env st w H Q h
    exact ⟨.ref a, hv.sl, G.C cn, d0, ws, cv, cw, b, ec, C, ed, hx, rfl, hcr, hk, hq q⟩
theorem he_is (E : Ef G n N S L) {x y : Str} {cx : Nat} (hm : G.mg "isinstance" = none) (hg : c.sc.names.lookup ("isinstance" : Str) = some .globalImplicit) (hN : c.N[i]? = some x) (hmy : G.mg y = some (.ref (G.C cx))) (hgy : c.sc.names.lookup y = some .globalImplicit)
    (hdy : (y == ("__debug__" : Str)) = false := by decide) (hv : Vis c.sc x := by first | exact Or.inl rfl | exact Or.inr (Or.inl rfl) | exact Or.inr (Or.inr rfl)) (hd : (x == ("__debug__" : Str)) = false := by decide) (hcd : (x == ("__classdict__" : Str)) = false := by decide) :
    HE G c k i (.Call (.Name "isinstance" p) [.Name x p1, .Name y p2] [] pos) (mXis n N S cx) :=
  he_isx (cv := .ref (G.C cx)) (cw := .ref (G.C cx)) hm hg hN (fun u r => r) (fun X a oe cls d pn h => pe_glob (v := .ref (G.C cx)) (h.gl hgy) (by show X.mg _ = _; rw [h.mg]; exact hmy) rfl hdy) (fun cn fs env st w H Q h => by
    unfold mXis at h
    split at h
    · rename_i hc
      exact ⟨S cn cx, E.ec cn hc.1 hc.2.1, E.ks cn cx hc.1 hc.2.1 hc.2.2.1 hc.2.2.2, fun q => h w H _ .refl q rfl⟩
    · exact h.elim) hv hd hcd
theorem he_isV (E : Ef G n N S L) {x : Str} (hm : G.mg "isinstance" = none) (hg : c.sc.names.lookup ("isinstance" : Str) = some .globalImplicit) (hN : c.N[i]? = some x) (hmv : G.mg "ValueError" = none) (hgv : c.sc.names.lookup ("ValueError" : Str) = some .globalImplicit)
    (hv : Vis c.sc x := by first | exact Or.inl rfl | exact Or.inr (Or.inl rfl) | exact Or.inr (Or.inr rfl)) (hd : (x == ("__debug__" : Str)) = false := by decide) (hcd : (x == ("__classdict__" : Str)) = false := by decide) :
    HE G c k i (.Call (.Name "isinstance" p) [.Name x p1, .Name "ValueError" p2] [] pos) (mXisV n N) :=
  he_isx (cv := .ty "ValueError") (cw := .type "ValueError") hm hg hN (fun u r => r) (fun X a oe cls d pn h => pe_bltn (v := .ty "ValueError") (h.gl hgv) (by show X.mg _ = _; rw [h.mg]; exact hmv) (by kernel_rfl) rfl (by decide) (by decide)) (fun cn fs env st w H Q h => by
    unfold mXisV at h
    split at h
    · rename_i hc
      exact ⟨true, E.ec cn hc.1 hc.2, E.kv cn hc.1 hc.2, fun q => h w H _ .refl q rfl⟩
    · exact h.elim) hv hd hcd

/-! try -/
theorem EnvR.off {T : Tb} {w : Wd} {H : Hp} {env : DEnv} {σ : St} (h : EnvR T w H env σ) (i : Nat) (x : Option V) : EnvR T w H (env.set i none) (σ.set i x) := by
  refine ⟨by simp [h.1], fun j d hj => ?_⟩
  by_cases q : i = j
  · subst q
    by_cases hl : i < env.length
    · rw [List.getElem?_set_self hl] at hj; cases hj
    · rw [List.getElem?_eq_none (by simpa using hl)] at hj; cases hj
  · rw [List.getElem?_set_ne q] at hj ⊢
    exact h.2 j d hj
/-- behind a suite: the exception's name is gone -/
def offX (i : Nat) : SRes → SRes
  | .fl (.nx e) st => .fl (.nx (e.set i none)) st
  | .fl (.bk e) st => .fl (.bk (e.set i none)) st
  | .fl (.ct e) st => .fl (.ct (e.set i none)) st
  | .fl (.rt d) st => .fl (.rt d) st
  | _ => .stuck
def msTry (n N : Nat) (S : Nat → Nat → Bool) (cx i : Nat) (mb : MS) (ms : MX MS) : MS := fun env st => match mb env st with
  | .exc cn fs env1 st1 => if n ≤ cn ∧ cn < N ∧ i < env1.length then (if S cn cx = true then offX i (ms cn fs (env1.set i none) st1) else .exc cn fs env1 st1) else .stuck
  | r => r
theorem ds_try {W : St → XK} (E : Ef G n N S L) {x nm : Str} {cx : Nat} {body suite : List Stmt} {b0 : Stmt} {np pos' : Pos} {mb : MS} {ms : MX MS} (hcb : c.body = true) (hi : c.N[i]? = some nm) (hl : c.sc.names.lookup nm = some .local) (nd : c.N.Nodup)
    (hgx : c.sc.names.lookup x = some .globalImplicit) (hmx : G.mg x = some (.ref (G.C cx))) (hcx : n ≤ cx) (hcx2 : cx < N) (hb : ∀ W, DSs G c k W body mb) (hs : HSs G c k i (b0 :: suite) ms) (hdb : (x == ("__debug__" : Str)) = false := by decide) :
    DS G c k W (.Try body [.ExceptHandler (some (.Name x np)) (some nm) (b0 :: suite) pos'] [] [] pos) (msTry n N S cx i mb ms) := by
  obtain ⟨ts, s1, s2⟩ := hs
  let tb : WX → TS := fun Wx => Classical.choose (hb fun σ cls d H => Wx cls d σ H)
  have tb1 : ∀ Wx X, In G c k (fun σ cls d H => Wx cls d σ H) X → PSs X body (tb Wx) := fun Wx => (Classical.choose_spec (hb fun σ cls d H => Wx cls d σ H)).1
  have tb2 : ∀ Wx, SimS G.T (fun σ cls d H => Wx cls d σ H) (tb Wx) mb := fun Wx => (Classical.choose_spec (hb fun σ cls d H => Wx cls d σ H)).2
  refine ⟨fun D σ H => tb (wAs G.K (.ref (G.C cx)) i ts (fun cls d σ H => W σ cls d H) D) D σ H, fun X h => ?_, fun as H σ env st D e w hp => ?_⟩
  · obtain ⟨k1, k2⟩ := h.stk hcb
    have q := L2N.ps_try_as (X := X) (x := x) (n := nm) (c := .ref (G.C cx)) (i := i) (np := np) (pos := pos) (pos' := pos') (tb := tb) (ts := ts) (suite := suite) (b₀ := b0) (body := body) k1 k2 (by rw [h.N]; exact nd) (by rw [h.N]; exact hi) (by show X.env.scope.names.lookup nm = _; rw [h.sc]; exact hl) ⟨h.gl hgx, hdb, .inl (by rw [h.mg]; exact hmx)⟩ h.tk
      (fun Wx pn xe tk po => tb1 Wx _ ⟨h.prog, h.wd, h.K, h.mg, h.base, h.N, h.sc, h.fn, h.calm, h.room, tk, po, h.stk⟩) (fun a oe cls d pn hz hf => s1 X a oe cls d pn ⟨⟨W, h⟩, hz, hf⟩)
    rw [h.K] at q
    exact q
  · refine tb2 _ as H σ env st D e w ?_
    unfold msTry at hp
    cases z : mb env st with
    | fl f st1 =>
      rw [z] at hp
      cases f with
      | nx e2 => exact hp
      | bk e2 => exact hp
      | ct e2 => exact hp
      | rt d => exact hp
    | stuck => rw [z] at hp; exact hp
    | exc cn fs env1 st1 =>
      rw [z] at hp
      dsimp only at hp
      intro w2 H' σ1 cls dx sp q1 e1 xr
      split at hp
      · rename_i hc
        obtain ⟨h1, h2, hlen⟩ := hc
        refine ⟨S cn cx, by rw [xr.1]; exact E.em cn cx h1 h2 hcx hcx2, fun hS a na => ?_, fun hS => ?_⟩
        · rw [if_pos hS] at hp
          have hlt : i < σ1.length := by rw [← e1.1]; exact hlen
          refine s2 a cls dx cn fs w2 H' _ (env1.set i none) st1 _ (e1.off i _) q1 ⟨List.getElem?_set_self hlt, xr⟩ ?_
          have hp := hp.mono sp
          cases y : ms cn fs (env1.set i none) st1 with
          | stuck => rw [y] at hp; exact hp
          | exc _ _ _ _ => rw [y] at hp; exact hp
          | fl f st2 =>
            rw [y] at hp
            cases f with
            | nx e2 => exact fun w3 H3 σ3 s3 q3 e3 _ => hp w3 H3 _ s3 q3 (e3.off i none)
            | bk e2 => exact fun w3 H3 σ3 s3 q3 e3 _ => hp w3 H3 _ s3 q3 (e3.off i none)
            | ct e2 => exact fun w3 H3 σ3 s3 q3 e3 _ => hp w3 H3 _ s3 q3 (e3.off i none)
            | rt d => exact fun w3 H3 v s3 q3 r3 => hp w3 H3 v s3 q3 r3
        · rw [if_neg (by rw [hS]; decide)] at hp
          exact hp w2 H' σ1 cls dx sp q1 e1 xr
      · exact hp.elim
end
end DL
end
section
set_option Elab.async false
set_option linter.all false
set_option maxRecDepth 100000
set_option maxHeartbeats 2000000
namespace DL
open PySem L2

/-! ### leaving a def, its new boxes kept or not -/
def Lv (n : Nat) (ms : MS) (m : List D → Store → Res D) : Prop := ∀ (T : Tb) (w0 : Wd) (H0 : Hp) (st0 : Store) (ds : List D) (Q : VK) (E : XK), WH T w0 H0 st0 →
  Post T (Rep T) w0 H0 (m ds st0) Q E → PostS T w0 H0 (ms (startD n ds) st0) { nx := fun _ H' => Q .non H', rt := Q } (fun _ => E)
theorem lv_def {n : Nat} {ms : MS} : Lv n ms (mDef n ms) := fun T w0 H0 st0 ds Q E q0 hp => by
  unfold mDef at hp
  cases c : ms (startD n ds) st0 with
  | fl fl1 st1 =>
    rw [c] at hp
    cases fl1 with
    | nx env =>
      intro w2 H' σ s2 q2 e2
      obtain ⟨a1, a2, a3, a4⟩ := leave_ok q0 s2 q2
      exact hp w0 H' .non a1 a2 rfl
    | rt d =>
      intro w2 H' v s2 q2 r2
      obtain ⟨a1, a2, a3, a4⟩ := leave_ok q0 s2 q2
      exact hp w0 H' v a1 a2 (a3 d v r2)
    | bk env => exact hp.elim
    | ct env => exact hp.elim
  | exc cc fs env st1 =>
    rw [c] at hp
    intro w2 H' σ cls dx s2 q2 e2 x2
    obtain ⟨a1, a2, a3, a4⟩ := leave_ok q0 s2 q2
    obtain ⟨x1, d, ws, x3, x4, x5, x6⟩ := x2
    have hok : w0.ok d := by
      obtain ⟨r, hr⟩ := s2.pre
      obtain ⟨pq, hpq, _⟩ := s2.pend
      exact ⟨fun m => x4.1 (by rw [hr]; exact List.mem_append_left _ m), fun m => x4.2 (by rw [hpq]; exact List.mem_append_right _ m)⟩
    exact hp w0 H' cls dx a1 a2 ⟨x1, d, ws, x3, hok, x5, a4 fs ws x6⟩
  | stuck => rw [c] at hp; exact hp.elim
/-- a def that hands new boxes back -/
def mDefB (n : Nat) (b : MS) : List D → Store → Res D := fun ds st => match b (startD n ds) st with
  | .fl (.nx _) st' => .ok .non st'
  | .fl (.rt d) st' => .ok d st'
  | .exc c fs _ st' => .exc c fs st'
  | _ => .stuck
theorem lv_defB {n : Nat} {ms : MS} : Lv n ms (mDefB n ms) := fun T w0 H0 st0 ds Q E q0 hp => by
  unfold mDefB at hp
  cases c : ms (startD n ds) st0 with
  | fl fl1 st1 =>
    rw [c] at hp
    cases fl1 with
    | nx env => exact fun w2 H' σ s2 q2 e2 => hp w2 H' .non s2 q2 rfl
    | rt d => exact hp
    | bk env => exact hp.elim
    | ct env => exact hp.elim
  | exc cc fs env st1 =>
    rw [c] at hp
    exact fun w2 H' σ cls dx s2 q2 e2 x2 => hp w2 H' cls dx s2 q2 x2
  | stuck => rw [c] at hp; exact hp.elim
section
variable {G : Gd} {name qual : Str} {params : Arguments} {body : List Stmt} {scope : Scope} {f : Addr} {fd : FuncData} {N ps : List Str} {k n : Nat} {ms : MS} {m : List D → Store → Res D}
theorem fn_def0 {dV kV doc pm cdv ct oc : Value} {an od : Option Addr} {osl : Array (Option Value)} (lk : G.K.lookup f = some ⟨oc, od, .func (PySem.W.fnOf name qual params body scope dV kV doc pm an cdv ct), osl⟩) (hcd : PySem.W.codeIn G.K cdv qual = true)
    (S : FnScope N ps scope) (hn : ps.length = n) (hl : Lv N.length ms m) (hb : ∀ E : XK, DSs G (defCt N scope) k (fun _ => E) body ms) :
    FnOk G.P G.w G.K G.mg G.base (L2N.CX G.P G.w) (k + 1) f (PySem.W.fnOf name qual params body scope dV kV doc pm an cdv ct) ps (SpD G.T n m) := by
  refine fn_of (CX := L2N.CX G.P G.w) lk hcd S (fun vs H Q E h => by rw [hn]; exact h.len) fun A outer s H vs Q E hr h => ?_
  obtain ⟨t, h1, h2⟩ := hb E
  refine ⟨t, h1 _ ⟨rfl, rfl, rfl, rfl, rfl, rfl, rfl, rfl, rfl, hr, L2N.takes_of rfl rfl rfl rfl, passes_of rfl, fun _ => ⟨rfl, rfl⟩⟩, ?_⟩
  obtain ⟨w, st0, ds, e, q0, r, hp⟩ := h
  exact h2 w H (start N vs) (startD N.length ds) st0 _ (envr_start r) q0 (hl _ w H st0 ds Q E q0 hp)
/-- a def of the module that hands new boxes back -/
theorem fn_defL {x qual : Str} {st : Stmt} (F : Fun G.K x qual st f fd) (S : FnScope N ps (defScope st)) (hn : ps.length = n) (hl : Lv N.length ms m)
    (hb : ∀ E : XK, DSs G (defCt N (defScope st)) k (fun _ => E) (defBody st) ms) : FnOk G.P G.w G.K G.mg G.base (L2N.CX G.P G.w) (k + 1) f fd ps (SpD G.T n m) := by
  obtain ⟨oc, od, kV, doc, pm, an, cdv, ct, osl, rfl, lk, hcd⟩ := F.ex
  exact fn_def0 lk hcd S hn hl hb
theorem fd_mkB {x qual : Str} {st : Stmt} (F : Fun G.K x qual st f fd) (hm : G.mg x = some (.ref f)) (S : FnScope N ps (defScope st)) (hn : ps.length = n)
    (hb : ∀ E : XK, DSs G (defCt N (defScope st)) k (fun _ => E) (defBody st) ms) (B : Binds G.K fd ps []) : Fd G x n (k + 1) [] (mDefB N.length ms) :=
  ⟨f, fd, ps, [], fn_defL F S hn lv_defB hb, hm, F.kp, B, .nil⟩
/-! defs with defaults -/
theorem fn_defD {x qual : Str} {dvs : List V} {kws : List (Str × V)} (F : FunD G.K x qual params body scope dvs kws f fd) (S : FnScope N ps scope) (hn : ps.length = n) (hl : Lv N.length ms m)
    (hb : ∀ E : XK, DSs G (defCt N scope) k (fun _ => E) body ms) : FnOk G.P G.w G.K G.mg G.base (L2N.CX G.P G.w) (k + 1) f fd ps (SpD G.T n m) := by
  obtain ⟨oc, od, dV, kV, doc, pm, an, cdv, ct, osl, rfl, lk, hcd, _, _⟩ := F.ex
  exact fn_def0 lk hcd S hn hl hb
end
/-! f(..) with the last values by default -/
section
variable {G : Gd} {c : Ct} {k j n nw : Nat} {W : St → XK} {x : Str} {p pos : Pos} {e : Expr} {es : List Expr} {m : List D → Store → Res D} {ma : MA} {dvs : List V} {dds : List D}
theorem de_callD (F : Fd G x n j dvs m) (hd : ∀ w H, Reps G.T w H dds dvs) (hj : j ≤ k) (hg : c.sc.names.lookup x = some .globalImplicit) (ha : DA G c k W (e :: es) ma) (hl : ArgN ma nw) (hn : nw + dds.length = n)
    (hdb : (x == ("__debug__" : Str)) = false := by decide) (he : ∀ env, starEach (e :: es) env = (false, eval e env) :: starEach es env := by intro _; rfl) (hpl : ∀ env, (backTo pos (starEach es env)).any (·.1) = false := by intro _; rfl) :
    DE G c k W (.Call (.Name x p) (e :: es) [] pos) (mCall (fun ds st => m (ds ++ dds) st) ma) := by
  obtain ⟨f, fd, ps, ds, F1, F2, F3, F4, F5⟩ := F.ex
  obtain ⟨t, h1, h2⟩ := ha
  refine ⟨tCallSD (SpD G.T n m) dvs W t, fun X h => ?_, sim_call (fun env st ds st' e => by rw [hl.len env st ds st' e]; exact hn) hd h2⟩
  exact pe_callSD (h.fnOk F1) (h.room.mono hj) (h.gl hg) (by rw [h.mg]; exact F2) (by rw [h.K]; exact F3) (by rw [h.K]; exact F4) F5 (fun σ => L2N.passAt h.tk σ) (h1 X h) hdb (he _) (hpl _)
theorem de_callD0 (F : Fd G x n j dvs m) (hd : ∀ w H, Reps G.T w H dds dvs) (hj : j ≤ k) (hg : c.sc.names.lookup x = some .globalImplicit) (hn : dds.length = n) (hdb : (x == ("__debug__" : Str)) = false := by decide) :
    DE G c k W (.Call (.Name x p) [] [] pos) (mCall (fun ds st => m (ds ++ dds) st) mNil) := by
  obtain ⟨f, fd, ps, ds, F1, F2, F3, F4, F5⟩ := F.ex
  refine ⟨tCallSD (SpD G.T n m) dvs W tNil, fun X h => ⟨fun pins s σ H Q I q => ?_⟩, sim_call (fun env st ds st' e => by rw [(ArgN.nil).len env st ds st' e]; simpa using hn) hd sim_nil⟩
  have FX := h.fnOk F1
  refine wpAny_Call_Name_kw (ld_glob I (h.gl hg) (by rw [h.mg]; exact F2) ?_ hdb)
  exact PySem.W.callWith_K0 I.kIn (by rw [h.K]; exact F3) (run_fnSD (us := []) (vs := []) FX (h.room.mono hj) (by rw [h.K]; exact F4) F5 (L2N.passAt h.tk σ) I .nil q)
end
end DL
end
section
set_option Elab.async false
set_option linter.all false
set_option maxRecDepth 100000
set_option maxHeartbeats 2000000
namespace DL
open PySem L2

/-! ### operators and calls whose meaning looks at the slots (a callee's exception does) -/
def OpRS (X : Cx) (f : Value → Value → Sem Value) (r : St → R2) : Prop :=
  ∀ (pins : List (Addr × Obj)) (s : Shared) (σ : St) (H : Hp) (x y : V) (v u : Value) (Q : VK), Inv X pins σ H s → RelV x v → RelV y u → r σ x y H Q → wpAny (model X.prog X.w) X.A (f v u) (EP X pins σ Q) X.xe s
def CallRS (X : Cx) (f : Value) (r : St → List V → Hp → VK → Prop) : Prop :=
  ∀ (pins : List (Addr × Obj)) (s : Shared) (σ : St) (H : Hp) (xs : List V) (us : List Value) (Q : VK), Inv X pins σ H s → Vals xs us → r σ xs H Q → wpAny (model X.prog X.w) X.A (call f us) (EP X pins σ Q) X.xe s
def tOpS (r : St → R2) (ta tb : TE) : TE := fun σ H Q => ta σ H fun x H1 => tb σ H1 fun y H2 => r σ x y H2 Q
def tCBS (r : St → List V → Hp → VK → Prop) (t : TA) : TE := fun σ H Q => t σ H fun vs H1 => r σ vs H1 Q
section
variable {X : Cx} {a b e : Expr} {es : List Expr} {ta tb : TE} {t : TA} {x : Str} {p pos : Pos} {id T : String}
theorem pe_cmpS {op : CmpOp} {r : St → R2} (ho : OpRS X (compareOp op) r) (ha : PE X a ta) (hb : PE X b tb) (hm : behindInMarks op b = false) : PE X (.Compare a [op] [b] pos) (tOpS r ta tb) := by
  refine ⟨fun pins s σ H Q I h => ?_⟩
  exact wpAny_Compare1 (binT ha hb I h fun v u s2 x y H2 I2 rx ry q => ho pins s2 σ H2 x y v u Q I2 rx ry q) hm
theorem pt_cmpS {op : CmpOp} {r : St → R2} (ho : OpRS X (compareOp op) r) (ha : PE X a ta) (hb : PE X b tb) (hm : behindInMarks op b = false) : PT X (.Compare a [op] [b] pos) (tTest (tOpS r ta tb)) := by
  refine ⟨fun pins s σ H Q I h => ?_⟩
  refine wpAny_isTrue_Compare1 (thn (ha.run pins s σ H _ I h) fun v s1 ⟨x, H1, I1, r1, q1⟩ => thn (hb.run pins s1 σ H1 _ I1 q1) fun u s2 ⟨y, H2, I2, r2, q2⟩ =>
    thn (ho pins s2 σ H2 x y v u _ I2 r1 r2 q2) fun c s3 ⟨z, H3, I3, r3, k, e, q3⟩ => ?_) hm
  subst e
  cases r3
  exact wpAny_truthy_bool ⟨H3, I3, q3⟩
theorem pe_callBS {r : St → List V → Hp → VK → Prop} (hc : CallRS X (.builtin id) r) (hg : Gl X x) (hm : X.mg x = none) (hv : bootBuiltins x = some (.builtin id)) (ha : PA X (e :: es) t) (hn : x ≠ "__name__" := by decide) (hdb : (x == ("__debug__" : Str)) = false := by decide)
    (he : starEach (e :: es) X.env = (false, eval e X.env) :: starEach es X.env := by rfl) (hpl : (backTo pos (starEach es X.env)).any (·.1) = false := by rfl) : PE X (.Call (.Name x p) (e :: es) [] pos) (tCBS r t) := by
  refine ⟨fun pins s σ H Q I h => ?_⟩
  refine wpAny_Call_Name_kw (ld_blt I hg hm hv ?_ hn hdb)
  exact PyProof.Rows.callWith_builtin1 (thn (ha.run pos pins s σ H _ I h) fun us s1 ⟨vs, H1, I1, r1, q1⟩ => hc pins s1 σ H1 vs us Q I1 r1 q1) he hpl
theorem pe_callTyS {r : St → List V → Hp → VK → Prop} (hc : CallRS X (.type T) r) (hg : Gl X x) (hm : X.mg x = none) (hv : bootBuiltins x = some (.type T)) (ha : PA X (e :: es) t) (hn : x ≠ "__name__" := by decide) (hdb : (x == ("__debug__" : Str)) = false := by decide)
    (he : starEach (e :: es) X.env = (false, eval e X.env) :: starEach es X.env := by rfl) (hpl : (backTo pos (starEach es X.env)).any (·.1) = false := by rfl) : PE X (.Call (.Name x p) (e :: es) [] pos) (tCBS r t) := by
  refine ⟨fun pins s σ H Q I h => ?_⟩
  refine wpAny_Call_Name_kw (ld_blt I hg hm hv ?_ hn hdb)
  exact PyProof.Rows.callWith_type1 (thn (ha.run pos pins s σ H _ I h) fun us s1 ⟨vs, H1, I1, r1, q1⟩ => hc pins s1 σ H1 vs us Q I1 r1 q1) he hpl
end
def DOpI (G : Gd) (c : Ct) (k : Nat) (W : St → XK) (f : Value → Value → Sem Value) (m : D → D → Store → Res D) : Prop := ∃ r : St → R2, (∀ X, In G c k W X → OpRS X f r) ∧ ∀ σ, SimR G.T (W σ) (r σ) m
def DBI (G : Gd) (c : Ct) (k : Nat) (W : St → XK) (v : Value) (f : List D → Store → Res D) : Prop := ∃ r : St → List V → Hp → VK → Prop, (∀ X, In G c k W X → CallRS X v r) ∧ ∀ σ, SimC G.T (W σ) (r σ) f
def orO (own : Store → D → D → Bool) (f g : D → D → Store → Res D) : D → D → Store → Res D := fun d e st => if own st d e = true then f d e st else g d e st
def orC (own : Store → List D → Bool) (f g : List D → Store → Res D) : List D → Store → Res D := fun ds st => if own st ds = true then f ds st else g ds st
section
variable {G : Gd} {c : Ct} {k : Nat} {W : St → XK} {a b e : Expr} {ma mb : ME} {es : List Expr} {m : MA} {x : Str} {p pos : Pos} {id T : String}
theorem DOp.I {f : Value → Value → Sem Value} {m : D → D → Store → Res D} (h : DOp G W f k m) : DOpI G c k W f m := by
  obtain ⟨r, h1, h2⟩ := h
  exact ⟨fun _ => r, fun X h pins s σ H x y v u Q I rx ry q => h.op h1 pins s σ H x y v u Q I rx ry q, h2⟩
theorem DB.I {v : Value} {f : List D → Store → Res D} (h : DB G W k v f) : DBI G c k W v f := by
  obtain ⟨r, h1, h2⟩ := h
  exact ⟨fun _ => r, fun X h pins s σ H xs us Q I rx q => h1 X h.prog h.wd h.K h.calm h.room pins s σ H xs us Q I rx q, h2⟩
theorem DOpI.or {f : Value → Value → Sem Value} {m1 m2 : D → D → Store → Res D} {own : Store → D → D → Bool} (h : DOpI G c k W f m1) (h' : DOpI G c k W f m2) : DOpI G c k W f (orO own m1 m2) := by
  obtain ⟨r, h1, h2⟩ := h
  obtain ⟨r', h3, h4⟩ := h'
  refine ⟨fun σ x y H Q => r σ x y H Q ∨ r' σ x y H Q, fun X h pins s σ H x y v u Q I rx ry q => ?_, fun σ w H d e x y st Q rd re q hp => ?_⟩
  · rcases q with q | q
    · exact h1 X h pins s σ H x y v u Q I rx ry q
    · exact h3 X h pins s σ H x y v u Q I rx ry q
  · unfold orO at hp
    split at hp
    · exact .inl (h2 σ w H d e x y st Q rd re q hp)
    · exact .inr (h4 σ w H d e x y st Q rd re q hp)
theorem DBI.or {v : Value} {f g : List D → Store → Res D} {own : Store → List D → Bool} (h : DBI G c k W v f) (h' : DBI G c k W v g) : DBI G c k W v (orC own f g) := by
  obtain ⟨r, h1, h2⟩ := h
  obtain ⟨r', h3, h4⟩ := h'
  refine ⟨fun σ xs H Q => r σ xs H Q ∨ r' σ xs H Q, fun X h pins s σ H xs us Q I rx q => ?_, fun σ w H ds xs st Q rd q hp => ?_⟩
  · rcases q with q | q
    · exact h1 X h pins s σ H xs us Q I rx q
    · exact h3 X h pins s σ H xs us Q I rx q
  · unfold orC at hp
    split at hp
    · exact .inl (h2 σ w H ds xs st Q rd q hp)
    · exact .inr (h4 σ w H ds xs st Q rd q hp)
theorem sim_opS {T : Tb} {r : St → R2} {f : D → D → Store → Res D} {ta tb : TE} (hr : ∀ σ, SimR T (W σ) (r σ) f) (ha : SimE T W ta ma) (hb : SimE T W tb mb) : SimE T W (tOpS r ta tb) (mOp f ma mb) := fun as H σ env st Q e w h =>
  ha as H σ env st _ e w (Post.imp h fun d st1 as1 H1 x _ s1 w1 r1 h1 =>
    hb as1 H1 σ env st1 _ (e.mono s1) w1 (Post.imp h1 fun d2 st2 as2 H2 y _ s2 w2 r2 h2 =>
      hr σ as2 H2 d d2 x y st2 Q (Rep.mono s2 _ _ r1) r2 w2 h2))
theorem sim_cbS {T : Tb} {r : St → List V → Hp → VK → Prop} {f : List D → Store → Res D} {tr : TA} {mr : MA} (hr : ∀ σ, SimC T (W σ) (r σ) f) (ha : SimA T W tr mr) : SimE T W (tCBS r tr) (mCall f mr) := fun as H σ env st Q e w h =>
  ha as H σ env st _ e w (Post.imp h fun ds st1 as1 H1 xs _ s1 w1 r1 h1 => hr σ as1 H1 ds xs st1 Q r1 w1 h1)
theorem de_cmpI {op : CmpOp} {f : D → D → Store → Res D} (ho : DOpI G c k W (compareOp op) f) (ha : DE G c k W a ma) (hb : DE G c k W b mb) (hm : behindInMarks op b = false := by first | rfl | exact nomark _) : DE G c k W (.Compare a [op] [b] pos) (mOp f ma mb) := by
  obtain ⟨r, h1, h2⟩ := ho
  obtain ⟨t, h3, h4⟩ := ha
  obtain ⟨u, h5, h6⟩ := hb
  exact ⟨_, fun X h => pe_cmpS (h1 X h) (h3 X h) (h5 X h) hm, sim_opS h2 h4 h6⟩
theorem dt_cmpI {op : CmpOp} {f : D → D → Store → Res D} (ho : DOpI G c k W (compareOp op) f) (ha : DE G c k W a ma) (hb : DE G c k W b mb) (hm : behindInMarks op b = false := by first | rfl | exact nomark _) : DT G c k W (.Compare a [op] [b] pos) (mTest (mOp f ma mb)) := by
  obtain ⟨r, h1, h2⟩ := ho
  obtain ⟨t, h3, h4⟩ := ha
  obtain ⟨u, h5, h6⟩ := hb
  exact ⟨_, fun X h => pt_cmpS (h1 X h) (h3 X h) (h5 X h) hm, sim_testT (sim_opS h2 h4 h6)⟩
theorem de_bltI {f : List D → Store → Res D} (hb : DBI G c k W (.builtin id) f) (hm : G.mg x = none) (hg : c.sc.names.lookup x = some .globalImplicit) (hv : bootBuiltins x = some (.builtin id)) (ha : DA G c k W (e :: es) m)
    (hn : x ≠ "__name__" := by decide) (hdb : (x == ("__debug__" : Str)) = false := by decide) (he : ∀ env, starEach (e :: es) env = (false, eval e env) :: starEach es env := by intro _; rfl) (hpl : ∀ env, (backTo pos (starEach es env)).any (·.1) = false := by intro _; rfl) :
    DE G c k W (.Call (.Name x p) (e :: es) [] pos) (mCall f m) := by
  obtain ⟨r, h1, h2⟩ := hb
  obtain ⟨t, h3, h4⟩ := ha
  exact ⟨tCBS r t, fun X h => pe_callBS (h1 X h) (h.gl hg) (by rw [h.mg]; exact hm) hv (h3 X h) hn hdb (he _) (hpl _), sim_cbS h2 h4⟩
theorem de_tyI {f : List D → Store → Res D} (hb : DBI G c k W (.type id) f) (hm : G.mg x = none) (hg : c.sc.names.lookup x = some .globalImplicit) (hv : bootBuiltins x = some (.type id)) (ha : DA G c k W (e :: es) m)
    (hn : x ≠ "__name__" := by decide) (hdb : (x == ("__debug__" : Str)) = false := by decide) (he : ∀ env, starEach (e :: es) env = (false, eval e env) :: starEach es env := by intro _; rfl) (hpl : ∀ env, (backTo pos (starEach es env)).any (·.1) = false := by intro _; rfl) :
    DE G c k W (.Call (.Name x p) (e :: es) [] pos) (mCall f m) := by
  obtain ⟨r, h1, h2⟩ := hb
  obtain ⟨t, h3, h4⟩ := ha
  exact ⟨tCBS r t, fun X h => pe_callTyS (h1 X h) (h.gl hg) (by rw [h.mg]; exact hm) hv (h3 X h) hn hdb (he _) (hpl _), sim_cbS h2 h4⟩
end

/-! ### an own class's __eq__, __len__, __contains__ -/
structure Ow (G : Gd) (c : Nat) (z : Str) (n j : Nat) (m : List D → Store → Res D) : Prop where
  ex : ∃ (f : Addr) (fd : FuncData) (ps : List Str), PySem.W.findIn G.K (.ref (G.C c)) z = some (some (.ref f)) ∧ PySem.W.isFn G.K (.ref f) = true ∧ PySem.W.fnIn G.K f = true ∧
    FnOk G.P G.w G.K G.mg G.base (L2N.CX G.P G.w) j f fd ps (SpD G.T n m) ∧ Binds G.K fd ps []
section
variable {X : Cx} {pins : List (Addr × Obj)} {σ : St} {H : Hp} {s : Shared} {C : Addr} {x : V} {v : Value}
theorem ins_at {a : Addr} {dx : Addr} {fs : List (Str × V)} (I : Inv X pins σ H s) (ea : H a = some (.ins C dx fs)) : ∃ ox od, PySem.W.InstAt s.heap a ox C od := by
  obtain ⟨mA, O, _⟩ := ins_get I.hok ea
  obtain ⟨od, J, _⟩ := O.look
  exact ⟨_, _, J⟩
theorem run_in1 {CX : CXT} {k : Nat} {f : Addr} {fd : FuncData} {ps : List Str} {sp : Sp} {E : XK} {Q : VK} {us : List Value} {vs : List V} (F : FnOk X.prog X.w X.K X.mg X.base CX k f fd ps sp) (hr : Room (k + 1) X.A) (hb : Binds X.K fd ps []) (hx : PassesAt CX X σ E)
    (I : Inv X pins σ H s) (r : Vals vs us) (h : sp vs H Q E) : wpAny (model X.prog X.w) X.A.in1 (call (.ref f) us) (EP X pins σ Q) X.xe s := by
  have hl : (us ++ ([] : List Value)).length = ps.length := by rw [List.append_nil, ← r.length]; exact F.len _ _ _ _ h
  have b := hb s us I.kIn hl
  rw [List.append_nil] at b
  refine wpAny_call (codeAny_mono (F.run X.A.in1 X.stack s H ⟨us, []⟩ us vs Q E hr.in1 I.env0.in1 b r h) fun r s' hq => ?_)
  cases r with
  | error e => exact hx pins H s e s' I hq
  | ok fl =>
    cases fl with
    | ret u => exact I.after hq
    | next => exact False.elim hq
    | brk => exact False.elim hq
    | cont => exact False.elim hq
end
def oneBl (r : D) (k : Bool → Res D) : Res D := match r with
  | .bl b => k b
  | _ => .stuck
/-- x == y, x an instance of c -/
def oEq (c n : Nat) (N : String ⊕ Nat → Bool) (m : List D → Store → Res D) : D → D → Store → Res D := fun d e st => match fv st d, tyD st e with
  | some (c2, _), some t => if c2 = c ∧ N t = true ∧ tyOk n t = true then (m [d, e] st).bind fun r st2 => oneBl r fun b => .ok (.bl b) st2 else .stuck
  | _, _ => .stuck
/-- x in y, y an instance of c; g: what of the answer -/
def oIn (c : Nat) (g : Bool → Bool) (m : List D → Store → Res D) : D → D → Store → Res D := fun d e st => match fv st e with
  | some (c2, _) => if c2 = c then (m [e, d] st).bind fun r st2 => oneBl r fun b => .ok (.bl (g b)) st2 else .stuck
  | none => .stuck
/-- len(x), x an instance of c -/
def oLen (c : Nat) (m : List D → Store → Res D) : List D → Store → Res D := fun ds st => match ds with
  | [d] => match fv st d with
    | some (c2, _) => if c2 = c then (m [d] st).bind fun r st2 => match r with
      | .int i => if 0 ≤ i ∧ i < 2 ^ 63 then .ok (.int i) st2 else .stuck
      | _ => .stuck else .stuck
    | none => .stuck
  | _ => .stuck
def isO (c : Nat) (st : Store) (d : D) : Bool := match fv st d with
  | some (c2, _) => c2 == c
  | none => false
section
variable {G : Gd} {ct : Ct} {k j n cn c : Nat} {W : St → XK} {m : List D → Store → Res D}
theorem In.run {X : Cx} (h : In G ct k W X) {f : Addr} {fd : FuncData} {ps : List Str} {sp : Sp} (F : FnOk G.P G.w G.K G.mg G.base (L2N.CX G.P G.w) j f fd ps sp) (hj : j ≤ k) (hb : Binds G.K fd ps []) {pins : List (Addr × Obj)} {σ : St} {H : Hp} {s : Shared} {Q : VK} {us : List Value} {vs : List V}
    (I : Inv X pins σ H s) (r : Vals vs us) (q : sp vs H Q (W σ)) : wpAny (model X.prog X.w) X.A (call (.ref f) us) (EP X pins σ Q) X.xe s :=
  run_fnSD (dvs := []) (E := W) (h.fnOk F) (h.room.mono hj) (by rw [h.K]; exact hb) .nil (L2N.passAt h.tk σ) I r (by rw [List.append_nil]; exact q)
theorem dop_eqO {J : Nat → Nat → Bool} {N : String ⊕ Nat → Bool} (Kx : Kf G cn J) (F : Ow G c "__eq__" 2 j m) (hj : j ≤ k) (hN : ∀ t, N t = true → PySem.W.notFirst G.K (G.C c) (tyVal G t) = true) : DOpI G ct k W (compareOp .Eq) (oEq c cn N m) := by
  obtain ⟨f, fd, ps, o1, o2, o3, F1, F2⟩ := F.ex
  refine ⟨fun σ x y H Q => ∃ a dx fs t, x = .ref a ∧ H a = some (.ins (G.C c) dx fs) ∧ TyX G.K H y t ∧ PySem.W.notFirst G.K (G.C c) t = true ∧ SpD G.T 2 m [x, y] H (fun z H' => ∃ b, z = .bl b ∧ Q (.bl b) H') (W σ), fun X h pins s σ H x y v u Q I rx ry q => ?_,
    fun σ w H d e x y st Q rd re q hp => ?_⟩
  · obtain ⟨a, dx, fs, t, rfl, ea, ty, nf, q⟩ := q
    obtain rfl : v = Value.ref a := rx
    obtain ⟨ox, od, J⟩ := ins_at I ea
    obtain ⟨mm, hF⟩ := I.fr
    obtain ⟨P, Z, hP, _⟩ := kit_of I ry (by rw [h.K]; exact ty)
    show wpAny _ _ (richCompare .Eq (.ref a) u) _ _ _
    refine PySem.W.cmp_K (K := X.K) (op := .Eq) h.room.units0 hF I.ok.mod.kin J (Z.ty _ _ I.kIn hP) (by rw [h.K]; exact nf) (by rw [h.K]; exact o1) (by rw [h.K]; exact o2) ?_
    refine wpAny_mono (h.run F1 hj F2 (us := [.ref a, u]) (vs := [.ref a, y]) I (.cons rfl (.cons ry .nil)) q) (fun w s' z => ?_) fun _ _ x => x
    obtain ⟨z', H', I', rz, b, eb, qz⟩ := z
    subst eb
    obtain rfl : w = Value.bool b := rz
    exact ⟨.bl b, H', I', rfl, qz⟩
  · unfold oEq at hp
    split at hp
    · rename_i c2 fs t hf ht
      split at hp
      · rename_i hc
        obtain ⟨rfl, hn, ho⟩ := hc
        obtain ⟨a, dx, ws, rfl, e1, rr⟩ := fv_rep q rd hf
        refine ⟨a, dx, ws, _, rfl, e1, tyX_of Kx q re ht (tyOk_lt ho), hN t hn, w, st, [d, e], rfl, q, ⟨_, _, rfl, rd, _, _, rfl, re, rfl⟩, ?_⟩
        refine Post.imp hp fun r st2 w2 H2 z _ s2 q2 r2 h2 => ?_
        cases r with
        | bl b => exact ⟨b, r2, h2 w2 H2 _ .refl q2 rfl⟩
        | _ => exact h2.elim
      · exact hp.elim
    · exact hp.elim
theorem dop_inO (F : Ow G c "__contains__" 2 j m) (hj : j ≤ k) : DOpI G ct k W (compareOp .In) (oIn c id m) := by
  obtain ⟨f, fd, ps, o1, o2, o3, F1, F2⟩ := F.ex
  refine ⟨fun σ x y H Q => ∃ a dx fs, y = .ref a ∧ H a = some (.ins (G.C c) dx fs) ∧ SpD G.T 2 m [y, x] H (fun z H' => ∃ b, z = .bl b ∧ Q (.bl b) H') (W σ), fun X h pins s σ H x y v u Q I rx ry q => ?_, fun σ w H d e x y st Q rd re q hp => ?_⟩
  · obtain ⟨a, dx, fs, rfl, ea, q⟩ := q
    obtain rfl : u = Value.ref a := ry
    obtain ⟨ox, od, J⟩ := ins_at I ea
    obtain ⟨mm, hF⟩ := I.fr
    refine PySem.W.in_K (K := X.K) hF I.ok.mod.kin J (by rw [h.K]; exact o1) (by rw [h.K]; exact o2) ?_
    refine wpAny_mono (h.run F1 hj F2 (us := [.ref a, v]) (vs := [.ref a, x]) I (.cons rfl (.cons rx .nil)) q) (fun w s' z => ?_) fun _ _ x => x
    obtain ⟨z', H', I', rz, b, eb, qz⟩ := z
    subst eb
    obtain rfl : w = Value.bool b := rz
    exact wpAny_truthy_bool ⟨.bl b, H', I', rfl, qz⟩
  · unfold oIn at hp
    split at hp
    · rename_i c2 fs hf
      split at hp
      · rename_i hc
        subst hc
        obtain ⟨a, dx, ws, rfl, e1, rr⟩ := fv_rep q re hf
        refine ⟨a, dx, ws, rfl, e1, w, st, [e, d], rfl, q, ⟨_, _, rfl, re, _, _, rfl, rd, rfl⟩, ?_⟩
        refine Post.imp hp fun r st2 w2 H2 z _ s2 q2 r2 h2 => ?_
        cases r with
        | bl b => exact ⟨b, r2, h2 w2 H2 _ .refl q2 rfl⟩
        | _ => exact h2.elim
      · exact hp.elim
    · exact hp.elim
theorem dop_notInO (F : Ow G c "__contains__" 2 j m) (hj : j ≤ k) : DOpI G ct k W (compareOp .NotIn) (oIn c not m) := by
  obtain ⟨f, fd, ps, o1, o2, o3, F1, F2⟩ := F.ex
  refine ⟨fun σ x y H Q => ∃ a dx fs, y = .ref a ∧ H a = some (.ins (G.C c) dx fs) ∧ SpD G.T 2 m [y, x] H (fun z H' => ∃ b, z = .bl b ∧ Q (.bl (!b)) H') (W σ), fun X h pins s σ H x y v u Q I rx ry q => ?_, fun σ w H d e x y st Q rd re q hp => ?_⟩
  · obtain ⟨a, dx, fs, rfl, ea, q⟩ := q
    obtain rfl : u = Value.ref a := ry
    obtain ⟨ox, od, J⟩ := ins_at I ea
    obtain ⟨mm, hF⟩ := I.fr
    refine PySem.W.notIn_K (K := X.K) hF I.ok.mod.kin J (by rw [h.K]; exact o1) (by rw [h.K]; exact o2) ?_
    refine wpAny_mono (h.run F1 hj F2 (us := [.ref a, v]) (vs := [.ref a, x]) I (.cons rfl (.cons rx .nil)) q) (fun w s' z => ?_) fun _ _ x => x
    obtain ⟨z', H', I', rz, b, eb, qz⟩ := z
    subst eb
    obtain rfl : w = Value.bool b := rz
    exact wpAny_truthy_bool ⟨.bl (!b), H', I', rfl, qz⟩
  · unfold oIn at hp
    split at hp
    · rename_i c2 fs hf
      split at hp
      · rename_i hc
        subst hc
        obtain ⟨a, dx, ws, rfl, e1, rr⟩ := fv_rep q re hf
        refine ⟨a, dx, ws, rfl, e1, w, st, [e, d], rfl, q, ⟨_, _, rfl, re, _, _, rfl, rd, rfl⟩, ?_⟩
        refine Post.imp hp fun r st2 w2 H2 z _ s2 q2 r2 h2 => ?_
        cases r with
        | bl b => exact ⟨b, r2, h2 w2 H2 _ .refl q2 rfl⟩
        | _ => exact h2.elim
      · exact hp.elim
    · exact hp.elim
theorem db_lenO (F : Ow G c "__len__" 1 j m) (hj : j + 1 ≤ k) : DBI G ct k W (.builtin "len") (oLen c m) := by
  obtain ⟨f, fd, ps, o1, o2, o3, F1, F2⟩ := F.ex
  refine ⟨fun σ xs H Q => ∃ a dx fs, xs = [.ref a] ∧ H a = some (.ins (G.C c) dx fs) ∧ SpD G.T 1 m xs H (fun z H' => ∃ i : Int, z = .int i ∧ (0 ≤ i ∧ i < 2 ^ 63) ∧ Q (.int i) H') (W σ), fun X h pins s σ H xs us Q I rx q => ?_, fun σ w H ds xs st Q rd q hp => ?_⟩
  · obtain ⟨a, dx, fs, rfl, ea, q⟩ := q
    obtain ⟨u, rfl, ru⟩ := rx.one
    obtain rfl : u = Value.ref a := ru
    obtain ⟨ox, od, J⟩ := ins_at I ea
    obtain ⟨mm, hF⟩ := I.fr
    refine PySem.W.len_K (K := X.K) hF I.ok.mod.kin J (by rw [h.K]; exact o1) (by rw [h.K]; exact o2) ?_
    refine wpAny_mono (run_in1 (us := [.ref a]) (vs := [.ref a]) (h.fnOk F1) (h.room.mono hj) (by rw [h.K]; exact F2) (L2N.passAt h.tk σ) I (.cons rfl .nil) q) (fun w s' z => ?_) fun _ _ x => x
    obtain ⟨z', H', I', rz, i, ei, hi, qz⟩ := z
    subst ei
    obtain ⟨t, e⟩ := (show ∃ t, w = Value.int i t from rz)
    subst e
    exact ⟨hi, .int i, H', I'.tok _, ⟨_, rfl⟩, qz⟩
  · unfold oLen at hp
    split at hp
    · rename_i d
      obtain ⟨v, rfl, rv⟩ := reps1 rd
      split at hp
      · rename_i c2 fs hf
        split at hp
        · rename_i hc
          subst hc
          obtain ⟨a, dx, ws, rfl, e1, rr⟩ := fv_rep q rv hf
          refine ⟨a, dx, ws, rfl, e1, w, st, [d], rfl, q, ⟨_, _, rfl, rv, rfl⟩, ?_⟩
          refine Post.imp hp fun r st2 w2 H2 z _ s2 q2 r2 h2 => ?_
          cases r with
          | int i =>
            dsimp only at h2
            split at h2
            · rename_i hi
              exact ⟨i, r2, hi, h2 w2 H2 _ .refl q2 rfl⟩
            · exact h2.elim
          | _ => exact h2.elim
        · exact hp.elim
      · exact hp.elim
    · exact hp.elim
end
end DL
end
section
set_option Elab.async false
set_option linter.all false
set_option maxRecDepth 100000
set_option maxHeartbeats 2000000
namespace DL
open PySem L2

/-! ### iter(t), t a tuple; its turns -/
def ItT (t it : Addr) (i : Nat) : HO := .ext fun h => h.IsTupleIter it t i
/-- an iterator that has ended -/
def ItG (it : Addr) : HO := .ext fun h => ∃ o, h.get? it = some o
theorem itT_ok {P : Program} {w : World} {H : Hp} {h : Heap} {t it : Addr} {i : Nat} (e : h.IsTupleIter it t i) : ObjOk P w H h it (ItT t it i) :=
  ⟨e, ⟨_, e.choose_spec.1⟩, fun h1 h2 q k => by obtain ⟨o, ho, r⟩ := q; exact ⟨o, k _ ho, r⟩⟩
theorem itG_ok {P : Program} {w : World} {H : Hp} {h : Heap} {it : Addr} (e : ∃ o, h.get? it = some o) : ObjOk P w H h it (ItG it) :=
  ⟨e, e, fun h1 h2 q k => by obtain ⟨o, ho⟩ := q; exact ⟨o, k _ ho⟩⟩
section
variable {X : Cx} {pins : List (Addr × Obj)} {σ : St} {H : Hp} {s : Shared} {t it : Addr} {i : Nat}
theorem itT_get (I : Inv X pins σ H s) (e : H it = some (ItT t it i)) : s.heap.IsTupleIter it t i := (I.hok it _ e).1
def rIterT (K : PySem.W.Frag) : List V → Hp → VK → Prop := fun xs H Q => ∃ (l : Addr) (zs : List V), xs = [.ref l] ∧ SqT K H l zs ∧ ∀ it, H it = none → Q (.ref it) (upd H it (ItT l it 0))
theorem call_iterT : CallR X (.builtin "iter") (rIterT X.K) := by
  intro pins s σ H xs us Q I r h
  obtain ⟨l, zs, rfl, hq, q⟩ := h
  obtain rfl := Vals.ref1 r
  obtain ⟨its, rv, pl, hz⟩ := I.tuple hq
  refine Calls.call_function_entry (by decide +kernel) (by decide +kernel) PySem.W.kdk_entry_iter (PySem.W.kdk_args_iter _) ?_
  unfold Builtin.«iter»
  refine wpAny_bind (m := someArgs "iter" 1 2 _) (wpAny_of_eq (a := [Value.ref l]) (by first | rfl | kernel_rfl!) ?_)
  show wpAny _ _ (pyIter (.ref l) >>= _) _ _ _
  refine wpAny_bind (wpAny_pyIter_tuple pl ?_)
  refine wpAny_pure ⟨_, rfl, ?_⟩
  exact ⟨.ref s.heap.objs.size, _, I.laid (t' := s.toks) (fun b u e => Heap.get?_push_of_some _ e) (Nat.le_refl _) (itT_ok ⟨_, Heap.get?_push_size _ rfl, rfl, rfl⟩), rfl, q _ (I.hok.fresh (Nat.le_refl _))⟩
end
section
variable {prog : Program} {w : World} {A : Around} {E : Value → Shared → Prop} {s : Shared}
/-- the end of a tuple's iterator: it stays an object -/
theorem next_endT {it t : Addr} {i : Nat} {items : Array Value} {Q : Option Value → Shared → Prop} (hh : A.handled = none) (hit : s.heap.IsTupleIter it t i) (ht : s.heap.IsTuple t items) (hx : items[i]? = none)
    (hQ : ∀ h', (∃ o, h'.get? it = some o) → Heap.ExtBut it s.heap h' → Q none { s with heap := h' }) : wpAny (model prog w) A (pyNext (.ref it)) Q E s := by
  obtain ⟨o, ho, hc, hd⟩ := id hit
  obtain ⟨ol, hol, _, nl, hdl⟩ := ht
  unfold pyNext
  refine wpAny_bind (wpAny_attempt (wpAny_callSpecial?_slot (name := Str.ofString "__next__") hit.typeIs F.slot_tuple_iterator_next
    (wpAny_call_entry F.slot_tuple_iterator_next hit.typeIs F.entry_tuple_iterator_next ?_ (F.args_tuple_iterator_next_1 _))))
  show wpAny _ _ (field (.ref it) 0 >>= _) _ _ s
  refine wpAny_bind (wpAny_field ho hd (x := .ref t) rfl ?_)
  show wpAny _ _ (if (Value.ref t == Value.none) = true then _ else _) _ _ s
  rw [if_neg (show ¬ ((Value.ref t == Value.none) = true) from Bool.false_ne_true)]
  show wpAny _ _ (field (.ref it) 1 >>= _) _ _ s
  refine wpAny_bind (wpAny_field ho hd (x := .int i 0) rfl ?_)
  show wpAny _ _ (seqItems? (.ref t) >>= _) _ _ s
  refine wpAny_bind (wpAny_seqItems hol hdl ?_)
  simp only [Int.toNat_natCast, hx]
  have up := Heap.get?_update_self (Obj.mapFields (·.setIfInBounds 0 Value.none)) ho (Obj.isFreed_of_fields (Obj.data_mapFields hd _))
  refine wpAny_bind (wpAny_rule (wpAny_bind (wpAny_setField ho hd (by simp) ?_)))
  show wpAny _ _ (newExc (.type "StopIteration") [] >>= _) _ _ _
  refine wpAny_bind ?_
  simp only [newExc, newTuple]
  refine wpAny_bind (wpAny_newObj_type ?_ (by size_fits))
  refine wpAny_bind (m := firstArgMember _ _) (wpAny_of_eq (a := Value.none) (by first | rfl | (simp only [firstArgMember]; rfl)) ?_)
  refine wpAny_newObj_type ?_ (by size_fits)
  simp only [raiseNew]
  refine wpAny_bind (wpAny_handled ?_)
  first | rw [show A.in1.handled = none from hh] | rw [hh]
  refine wpAny_bind (wpAny_pure (wpAny_throw ?_))
  refine wpAny_bind (wpAny_isInstance (T := "StopIteration") (b := true) ⟨_, Heap.get?_push_size _ rfl, rfl⟩ isSubtype_stop ?_)
  exact wpAny_pure (hQ _ ⟨_, Heap.get?_push_of_some _ (Heap.get?_push_of_some _ up)⟩ (((Heap.SameBut.update ..).extBut.push _).push _))
end
section
variable {X : Cx} {pins : List (Addr × Obj)} {σ : St}
theorem upd_same3 {H : Hp} {it q : Addr} {o o' u u' : HO} (hn : it ≠ q) : upd (upd (upd (upd H it o) q u) it o') q u' = upd (upd H it o') q u' := by
  funext b
  by_cases hq : b = q
  · rw [hq, upd_same, upd_same]
  · rw [upd_ne hq, upd_ne hq]
    by_cases hi : b = it
    · rw [hi, upd_same, upd_same]
    · rw [upd_ne hi, upd_ne hi, upd_ne hq, upd_ne hi]
theorem upd_swap {H : Hp} {it q : Addr} {o u : HO} (hn : it ≠ q) : upd (upd H it o) q u = upd (upd H q u) it o := by
  funext b
  by_cases hq : b = q
  · subst hq
    rw [upd_same, upd_ne (Ne.symm hn), upd_same]
  · rw [upd_ne hq]
    by_cases hi : b = it
    · rw [hi, upd_same, upd_same]
    · rw [upd_ne hi, upd_ne hi, upd_ne hq]
/-- the loop of list(..) over a tuple's iterator -/
theorem loopT {A1 : Around} {Rs : Result → Shared → Prop} {H0 : Hp} {it q p : Addr} {xs : List V} (hh : A1.handled = none) (hz : xs.length < sizeLine) (hnq : it ≠ q) (ht : SqT X.K H0 p xs) (hpi : ∀ o, H0 p = some o → p ≠ it ∧ p ≠ q)
    (hdone : ∀ s, Inv X pins σ (upd (upd H0 it (ItG it)) q (.lst xs)) s → Rs (.ok (.ret .none)) s) :
    ∀ (m i : Nat) (s : Shared), m = xs.length - i → i ≤ xs.length → Inv X pins σ (upd (upd H0 it (ItT p it i)) q (.lst (xs.take i))) s → codeAny (model X.prog X.w) A1 (.builtin "list.extend.loop" ⟨[.ref q, .ref it, .none], []⟩) Rs s := by
  have sq : ∀ o u, SqT X.K (upd (upd H0 it o) q u) p xs := by
    intro o u
    have k : ∀ x, H0 p = some x → upd (upd H0 it o) q u p = some x := fun x e => by
      obtain ⟨n1, n2⟩ := hpi x e
      rw [upd_ne n2, upd_ne n1]; exact e
    rcases ht with (h | ⟨x, h⟩) | h
    · exact .inl (.inl (k _ h))
    · exact .inl (.inr ⟨x, k _ h⟩)
    · exact .inr h
  intro m
  induction m with
  | zero =>
    intro i s hm hi I
    have ei : i = xs.length := by omega
    subst ei
    refine codeAny_builtin PySem.F.entry_extend_loop ?_
    rw [Around.under_plainId PySem.F.plain_extend_loop _]
    show wpAny _ A1.in1 (pyNext (.ref it) >>= _) _ _ s
    have hit : upd (upd H0 it (ItT p it xs.length)) q (.lst (xs.take xs.length)) it = some (ItT p it xs.length) := by rw [upd_ne hnq, upd_same]
    obtain ⟨its, rv, pl, _⟩ := I.tuple (sq _ _)
    refine wpAny_bind (next_endT hh (itT_get I hit) pl (by rw [List.getElem?_toArray]; exact rv.none_of (List.getElem?_eq_none (Nat.le_refl _))) fun h' he eb => ?_)
    refine wpAny_pure (hdone _ ?_)
    have J := I.write (x := it) (e := it) (o := ItG it) (t' := s.toks) (h' := h') (by rw [hit]; exact True.intro) (.inl rfl) (fun b u nb e => eb b u nb e) he (itG_ok he)
    have e2 : upd (upd (upd H0 it (ItT p it xs.length)) q (.lst (xs.take xs.length))) it (ItG it) = upd (upd H0 it (ItG it)) q (.lst xs) := by
      rw [List.take_length, ← upd_swap (H := upd H0 it (ItT p it xs.length)) hnq, upd_upd]
    rw [e2] at J
    exact J
  | succ m ih =>
    intro i s hm hi I
    have hlt : i < xs.length := by omega
    refine codeAny_builtin PySem.F.entry_extend_loop ?_
    rw [Around.under_plainId PySem.F.plain_extend_loop _]
    show wpAny _ A1.in1 (pyNext (.ref it) >>= _) _ _ s
    have hit : upd (upd H0 it (ItT p it i)) q (.lst (xs.take i)) it = some (ItT p it i) := by rw [upd_ne hnq, upd_same]
    obtain ⟨its, rv, pl, _⟩ := I.tuple (sq _ _)
    obtain ⟨u, hu, ru⟩ := rv.get (List.getElem?_eq_getElem hlt)
    refine wpAny_bind (wpAny_pyNext_tuple_item (itT_get I hit) pl (by rw [List.getElem?_toArray]; exact hu) fun h' e' sb => ?_)
    have J := I.write (x := it) (e := it) (o := ItT p it (i + 1)) (t' := s.toks) (h' := h') (by rw [hit]; exact True.intro) (.inl rfl) (fun b u nb e => (sb.2 b nb).trans e) ⟨_, e'.choose_spec.1⟩ (itT_ok e')
    have e2 : upd (upd (upd H0 it (ItT p it i)) q (.lst (xs.take i))) it (ItT p it (i + 1)) = upd (upd H0 it (ItT p it (i + 1))) q (.lst (xs.take i)) := by
      rw [← upd_swap (H := upd H0 it (ItT p it i)) hnq, upd_upd]
    rw [e2] at J
    have hq' : upd (upd H0 it (ItT p it (i + 1))) q (.lst (xs.take i)) q = some (.lst (xs.take i)) := upd_same
    obtain ⟨z, its2, k, r2, hl, e⟩ := J.lstM hq'
    have hl2 : (xs.take i).length = i := by rw [List.length_take]; omega
    show wpAny _ A1.in1 (updateSeq q (·.push u) >>= _) _ _ _
    refine wpAny_bind (wpAny_updateSeq e rfl (wpAny_pure ⟨plainId_quiet PySem.F.plain_extend_loop _, ?_⟩) (by rw [List.size_toArray]; omega) (by show (its2.toArray.push u).size ≤ sizeLine + 1; rw [Array.size_push, List.size_toArray]; omega))
    have et : xs.take (i + 1) = xs.take i ++ [xs[i]] := by rw [List.take_add_one, List.getElem?_eq_getElem hlt]; rfl
    have J2 := J.lset (its' := its2 ++ [u]) (f := (·.push u)) (ys := xs.take (i + 1)) (t' := s.toks) hq' e (by simp) (by rw [et]; exact r2.append (.cons ru .nil)) (by rw [et, List.length_append, List.length_singleton]; omega)
    rw [upd_upd] at J2
    exact ih (i + 1) _ (by omega) hlt J2
end
end DL
end
section
set_option Elab.async false
set_option linter.all false
set_option maxRecDepth 100000
set_option maxHeartbeats 2000000
namespace DL
open PySem L2

/-! ### instances with their own __iter__ that hands out a tuple's iterator -/
def spIt (T : Tb) (c : Nat) (f : Str) : Sp := fun vs H Q _ => ∃ a dx fs p xs, vs = [.ref a] ∧ H a = some (.ins (T.C c) dx fs) ∧ fs.lookup f = some (.ref p) ∧ SqT T.K H p xs ∧ ∀ it, H it = none → Q (.ref it) (upd H it (ItT p it 0))
structure It1 (G : Gd) (c : Nat) (f : Str) (j : Nat) : Prop where
  ex : ∃ (g : Addr) (fd : FuncData) (ps : List Str), PySem.W.findIn G.K (.ref (G.C c)) "__iter__" = some (some (.ref g)) ∧ PySem.W.isFn G.K (.ref g) = true ∧ FnOk G.P G.w G.K G.mg G.base (L2N.CX G.P G.w) j g fd ps (spIt G.T c f) ∧ Binds G.K fd ps []
section
variable {G : Gd} {n c : Nat} {J : Nat → Nat → Bool} {Na : Nat → Str → Bool}
theorem fn_iter {x qual sf fld : Str} {st : Stmt} {f : Addr} {fd : FuncData} {k : Nat} {p1 p2 p3 p4 p5 : Pos} (F : Fun G.K x qual st f fd) (S : FnScope [sf] [sf] (defScope st)) (Kx : Kf G n J) (A : NoA G n Na) (hc : c < n) (hna : Na c fld = true)
    (hb : defBody st = [.Return (some (.Call (.Name "iter" p1) [.Attribute (.Name sf p2) fld p3] [] p4)) p5]) (hgl : (defScope st).names.lookup ("iter" : Str) = some .globalImplicit) (hm : G.mg "iter" = none)
    (hv : Vis (defScope st) sf := by first | exact Or.inl rfl | exact Or.inr (Or.inl rfl) | exact Or.inr (Or.inr rfl)) (hd : (sf == ("__debug__" : Str)) = false := by decide) (hcd : (sf == ("__classdict__" : Str)) = false := by decide)
    (hbs : ∀ env, attributeBase (.Name sf p2) fld env (eval (.Name sf p2) env) = eval (.Name sf p2) env := by intro _; rfl) (he : ∀ env, starEach [.Attribute (.Name sf p2) fld p3] env = (false, eval (.Attribute (.Name sf p2) fld p3) env) :: starEach [] env := by intro _; rfl)
    (hpl : ∀ env, (backTo p4 (starEach [] env)).any (·.1) = false := by intro _; rfl) :
    FnOk G.P G.w G.K G.mg G.base (L2N.CX G.P G.w) (k + 1) f fd [sf] (spIt G.T c fld) := by
  obtain ⟨oc, od, kV, doc, pm, an, cdv, ct, osl, rfl, lk, hcd0⟩ := F.ex
  refine fn_of (CX := L2N.CX G.P G.w) lk hcd0 S (fun vs H Q E h => by obtain ⟨a, _, _, _, _, e, _⟩ := h; rw [e]; rfl) fun A0 outer s H vs Q E hr h => ?_
  obtain ⟨a, dx, fs, p, xs, rfl, ea, hl, hsq, q⟩ := h
  refine ⟨tRet (tCB (rIterT G.K) (tCons (tFld G.K (tVar 0) fld) tNil)), ?_, ?_⟩
  · rw [hb]
    refine pss_one (ps_ret (pe_callB call_iterT hgl hm (by decide +kernel) (pa_cons (pe_fld (pe_var (i := 0) rfl hv hd hcd) (hbs _)) pa_nil (he _)) (by decide) (by decide) (he _) (hpl _)))
  · exact ⟨.ref a, rfl, a, _, dx, fs, .ref p, rfl, ea, Kx.cl c hc, A.na c fld hc hna, hl, p, xs, rfl, hsq, q⟩
end
section
variable {prog : Program} {w : World} {A : Around} {E : Value → Shared → Prop} {s : Shared} {K : PySem.W.Frag} {C a f : Addr} {ox : Obj} {od : Option Obj}
/-- the length that list(..) asks for, the class's own -/
theorem hint_len {Q : Bool → Shared → Prop} (hK : K.In s.heap) (J : PySem.W.InstAt s.heap a ox C od) (hl : PySem.W.findIn K (.ref C) "__len__" = some (some (.ref f)))
    (h : wpAny (model prog w) A (call (.builtin "len") [.ref a]) (fun v s' => ∃ (i : Int) (t : Tok), v = .int i t ∧ i.toNat ≤ sizeLine ∧ Q (i != 0) s') (fun _ _ => False) s) : wpAny (model prog w) A (Builtin.List.listLengthHint (.ref a)) Q E s := by
  unfold Builtin.List.listLengthHint
  refine wpAny_bind (wpAny_bind (J.type.here ((PySem.W.looks_findIn hK hl).here ?_)))
  refine PySem.W.KFB.if_not rfl ?_
  refine PySem.W.KFB.if_so rfl ?_
  refine wpAny_bind (wpAny_rule ?_)
  refine wpAny_bind (wpAny_attempt (wpAny_mono h (fun v s' hv => ?_) fun _ _ z => z.elim))
  obtain ⟨i, t, rfl, hi, q⟩ := hv
  show wpAny _ _ (asInt? (.int i t) >>= _) _ _ _
  refine wpAny_bind (wpAny_of_eq (a := some i) (by first | rfl | kernel_rfl) ?_)
  refine PySem.W.KFB.if_not (notLongL hi) ?_
  exact wpAny_pure q
end
def eNo : XK := fun _ _ _ => False
theorem cx_no {P : Program} {w : World} {outer : List Env} {H : Hp} {s s' : Shared} {e : Value} (c : L2N.CX P w outer H s eNo e s') : False := by
  obtain ⟨_, _, _, _, _, _, _, _, _, _, _, _, h⟩ := c
  exact h
section
variable {X : Cx} {pins : List (Addr × Obj)} {σ : St} {H : Hp} {s : Shared}
theorem run_any {A : Around} {E : Value → Shared → Prop} {k : Nat} {f : Addr} {fd : FuncData} {ps : List Str} {sp : Sp} {Q : VK} {us : List Value} {vs : List V} (F : FnOk X.prog X.w X.K X.mg X.base (L2N.CX X.prog X.w) k f fd ps sp) (hr : Room k A)
    (e0 : Env0 X.prog X.w X.K X.mg X.base A X.stack s H) (hb : Binds X.K fd ps []) (I : Inv X pins σ H s) (r : Vals vs us) (h : sp vs H Q eNo) : wpAny (model X.prog X.w) A (call (.ref f) us) (EP X pins σ Q) E s := by
  have hl : (us ++ ([] : List Value)).length = ps.length := by rw [List.append_nil, ← r.length]; exact F.len _ _ _ _ h
  have b := hb s us I.kIn hl
  rw [List.append_nil] at b
  refine wpAny_call (codeAny_mono (F.run A X.stack s H ⟨us, []⟩ us vs Q eNo hr e0 b r h) fun r s' hq => ?_)
  cases r with
  | error e => exact (cx_no hq).elim
  | ok fl =>
    cases fl with
    | ret u => exact I.after hq
    | next => exact False.elim hq
    | brk => exact False.elim hq
    | cont => exact False.elim hq
def rListIt (K : PySem.W.Frag) (C : Addr) (f : Str) (sl : Sp) : List V → Hp → VK → Prop := fun xs H Q => ∃ a dx fs p ys, xs = [.ref a] ∧ H a = some (.ins C dx fs) ∧ fs.lookup f = some (.ref p) ∧ SqT K H p ys ∧ ys.length < sizeLine ∧
  ∀ q it, H q = none → H it = none → it ≠ q → sl [.ref a] (upd (upd H q (.lst [])) it (ItT p it 0)) (fun v H2 => ∃ i : Int, v = .int i ∧ (0 ≤ i ∧ i < 2 ^ 63) ∧ i.toNat ≤ sizeLine ∧ H2 q = some (.lst []) ∧ H2 it = some (ItT p it 0) ∧
    SqT K H2 p ys ∧ Q (.ref q) (upd (upd H2 it (ItG it)) q (.lst ys))) eNo
theorem call_listIt {T : Tb} {c n : Nat} {f : Str} {gi gl : Addr} {fdi fdl : FuncData} {psi psl : List Str} {sl : Sp} (hT : T.K = X.K) (o1 : PySem.W.findIn X.K (.ref (T.C c)) "__iter__" = some (some (.ref gi))) (o2 : PySem.W.isFn X.K (.ref gi) = true)
    (FI : FnOk X.prog X.w X.K X.mg X.base (L2N.CX X.prog X.w) n gi fdi psi (spIt T c f)) (bI : Binds X.K fdi psi []) (l1 : PySem.W.findIn X.K (.ref (T.C c)) "__len__" = some (some (.ref gl))) (l2 : PySem.W.isFn X.K (.ref gl) = true)
    (FL : FnOk X.prog X.w X.K X.mg X.base (L2N.CX X.prog X.w) n gl fdl psl sl) (bL : Binds X.K fdl psl []) (hr : Room (n + 3) X.A) : CallR X (.type "list") (rListIt X.K (T.C c) f sl) := by
  intro pins s σ H xs us Q I rv h
  obtain ⟨a, dx, fs, p, ys, rfl, ha, hl, hsq, hz, hq⟩ := h
  obtain ⟨u, rfl, ru⟩ := rv.one
  obtain rfl : u = Value.ref a := ru
  have r1 : Room (n + 2) X.A.in1 := Room.in1 hr
  have r2 : Room (n + 1) X.A.in1.in1 := Room.in1 r1
  have r3 : Room n X.A.in1.in1.in1 := Room.in1 r2
  refine callType_codes (Q₁ := fun obj s₁ => obj = .ref s.heap.objs.size ∧ s₁ = { s with heap := s.heap.push { cls := .type "list", data := .seq #[] } }) PySem.F.called_list (PySem.F.typeCall_list_1 _) PySem.F.entry_list_init
    (code_list_new _ ⟨rfl, rfl⟩) fun obj s₁ h₁ => ?_
  obtain ⟨rfl, rfl⟩ := h₁
  have hS : (s.heap.push { cls := .type "list", data := .seq #[] }).get? s.heap.objs.size = some { cls := .type "list", data := .seq #[] } := Heap.get?_push_size _ rfl
  refine ⟨⟨_, hS, rfl⟩, PySem.F.args_list_init_2 _ _, ?_⟩
  have fr : H s.heap.objs.size = none := I.hok.fresh (Nat.le_refl _)
  have hqq := hq s.heap.objs.size
  generalize eqq : s.heap.objs.size = q at fr hS hqq ⊢
  have I1 : Inv X pins σ (upd H q (.lst [])) { s with heap := s.heap.push { cls := .type "list", data := .seq #[] } } := by
    rw [← eqq]; exact I.lnew (its := []) (t' := s.toks) .nil (Nat.zero_le _)
  show wpAny _ _ (do let old ← Builtin.List.listItems (.ref q); Builtin.List.listUpdate (.ref q) (fun _ => #[]); letGo old.toList.reverse; Builtin.List.listExtendWith (.ref q) (.ref a) .none) _ _ _
  refine wpAny_bind ?_
  unfold Builtin.List.listItems
  refine wpAny_bind (wpAny_seqItems hS rfl (wpAny_pure ?_))
  show wpAny _ _ (updateSeq q (fun _ => #[]) >>= fun _ => letGo (#[] : Array Value).toList.reverse >>= fun _ => Builtin.List.listExtendWith (.ref q) (.ref a) .none) _ _ _
  refine wpAny_bind (wpAny_updateSeq hS rfl ?_)
  have I2 := I1.lset (f := fun _ => #[]) (its := []) (its' := []) (ys := []) (t' := s.toks) upd_same hS rfl .nil (Nat.zero_le _)
  rw [upd_upd] at I2
  refine wpAny_bind (wpAny_letGo ?_)
  -- the instance's own iterator
  have ha2 : upd H q (.lst []) a = some (.ins (T.C c) dx fs) := by rw [upd_ne (ne_of_none ha fr)]; exact ha
  have hne : q ≠ a := fun z => by rw [← z, fr] at ha; cases ha
  obtain ⟨ox, od, J⟩ := ins_at I2 ha2
  obtain ⟨m0, hF⟩ := I2.fr
  unfold Builtin.List.listExtendWith
  refine wpAny_bind (J.type.here ?_)
  have h1 : Builtin.List.listSameRef (.ref q) (.ref a) = false := by simp [Builtin.List.listSameRef, hne]
  have h2 : (Value.ref (T.C c) == Value.type "list") = false := rfl
  have h3 : (Value.ref (T.C c) == Value.type "tuple") = false := rfl
  simp only [h1, h2, h3, Bool.or_false, Bool.false_eq_true, if_false]
  refine wpAny_bind (PySem.W.owit_iter hF I2.ok.mod.kin J o1 o2 ?_)
  have sq2 : SqT X.K (upd H q (.lst [])) p ys := by
    rcases hsq with (h | ⟨o, h⟩) | h
    · exact .inl (.inl (by rw [upd_ne (ne_of_none h fr)]; exact h))
    · exact .inl (.inr ⟨o, by rw [upd_ne (ne_of_none h fr)]; exact h⟩)
    · exact .inr h
  have hspI : spIt T c f [.ref a] (upd H q (.lst [])) (fun v H' => ∃ it, v = .ref it ∧ upd H q (.lst []) it = none ∧ H' = upd (upd H q (.lst [])) it (ItT p it 0)) eNo :=
    ⟨a, dx, fs, p, ys, rfl, ha2, hl, by rw [hT]; exact sq2, fun it hn => ⟨it, rfl, hn, rfl⟩⟩
  refine wpAny_mono (run_any (us := [.ref a]) (vs := [.ref a]) FI (r2.mono (by omega)) I2.env0.in1.in1 bI I2 (.cons rfl .nil) hspI) (fun u s3 hu => ?_) fun _ _ z => z
  obtain ⟨v, H3, I3, rv3, it, rfl, hn, eH⟩ := hu
  obtain rfl : u = Value.ref it := rv3
  subst eH
  have hnq : it ≠ q := fun z => by rw [z, upd_same] at hn; cases hn
  have hnit : H it = none := by rw [upd_ne hnq] at hn; exact hn
  have hit : upd (upd H q (.lst [])) it (ItT p it 0) it = some (ItT p it 0) := upd_same
  have ti := itT_get I3 hit
  have npq : p ≠ q := fun z => by
    obtain ⟨_, _, ⟨o, ho, hc, _⟩, _⟩ := I2.tuple sq2
    obtain ⟨_, _, _, _, _, e⟩ := I2.lstM (l := q) upd_same
    rw [z, e] at ho
    cases ho
    exact absurd (show Value.type "list" = Value.type "tuple" from hc) (by decide)
  have npi : p ≠ it := fun z => by
    have sq3 : SqT X.K (upd (upd H q (.lst [])) it (ItT p it 0)) p ys := by
      rcases sq2 with (h | ⟨o, h⟩) | h
      · exact absurd h (by rw [z, hn]; exact fun e => nomatch e)
      · exact absurd h (by rw [z, hn]; exact fun e => nomatch e)
      · exact .inr h
    obtain ⟨_, _, ⟨o, ho, hc, _⟩, _⟩ := I3.tuple sq3
    obtain ⟨o2, ho2, hc2, _⟩ := ti
    rw [z, ho2] at ho
    cases ho
    rw [hc2] at hc
    exact absurd hc (by decide)
  refine wpAny_specialOf ti.typeIs F.slot_tuple_iterator_next.lookup ?_
  show wpAny _ _ (holding [Value.ref it] (Builtin.List.listLengthHint (.ref a)) >>= _) _ _ _
  have ha3 : upd (upd H q (.lst [])) it (ItT p it 0) a = some (.ins (T.C c) dx fs) := by
    rw [upd_ne (fun z : a = it => by rw [← z, ha2] at hn; cases hn)]; exact ha2
  obtain ⟨ox3, od3, J3⟩ := ins_at I3 ha3
  obtain ⟨m3, hF3⟩ := I3.fr
  refine wpAny_bind (wpAny_holding (hint_len I3.kIn J3 l1 (PySem.W.len_K hF3 I3.ok.mod.kin J3 l1 l2 (wpAny_mono (run_any (us := [.ref a]) (vs := [.ref a]) FL r3 I3.env0.in1.in1.in1 bL I3 (.cons rfl .nil) (hqq it fr hnit hnq)) (fun u s4 hu => ?_) fun _ _ z => z))))
  obtain ⟨v, H4, I4, rv4, i, rfl, hi1, hi2, e1, e2, e3, qq⟩ := hu
  obtain ⟨t, e⟩ := (show ∃ t, u = Value.int i t from rv4)
  subst e
  refine ⟨hi1, i, _, rfl, hi2, ?_⟩
  have I5 : Inv X pins σ H4 { s4 with toks := s4.toks + 1 } := I4.tok _
  have hH : upd (upd H4 it (ItT p it 0)) q (.lst (ys.take 0)) = H4 := by
    funext b
    by_cases hb : b = q
    · rw [hb, upd_same, e1]; rfl
    · rw [upd_ne hb]
      by_cases hb2 : b = it
      · rw [hb2, upd_same, e2]
      · rw [upd_ne hb2]
  have loop : ∀ s5, Inv X pins σ H4 s5 → codeAny (model X.prog X.w) X.A.in1 (.builtin "list.extend.loop" ⟨[.ref q, .ref it, .none], []⟩) (wants (fun r s₂ => r = .none ∧ EP X pins σ Q (.ref q) s₂) X.xe) s5 := fun s5 I => by
    refine loopT (H0 := H4) (p := p) (xs := ys) r1.hd hz hnq e3 (fun _ _ => ⟨npi, npq⟩) (fun s6 I6 => ⟨rfl, .ref q, _, I6, rfl, qq⟩) ys.length 0 s5 rfl (Nat.zero_le _) ?_
    rw [hH]; exact I
  obtain ⟨z, its, k, rL, hl3, e6⟩ := I5.lstM e1
  cases rL
  refine wpAny_ite_split (fun _ => ?_) (fun _ => wpAny_pure ⟨plainId_quiet PySem.F.plain_extend_loop _, loop _ I5⟩)
  refine wpAny_bind (wpAny_rule ?_)
  refine wpAny_bind ?_
  show wpAny _ _ (updateSeq q (·.push .none) >>= fun _ => updateSeq q (·.pop)) _ _ _
  refine wpAny_bind (wpAny_updateSeq e6 rfl ?_)
  have I6 := I5.lset (f := (·.push Value.none)) (its' := [Value.none]) (ys := [.non]) (t' := s4.toks + 1) e1 e6 (by simp) (.cons rfl .nil) (by rw [List.length_singleton, sizeLine_eq]; decide)
  obtain ⟨z4, its4, k4, r4, hl4, e7⟩ := I6.lstM upd_same
  obtain ⟨u4, rfl, ru4⟩ := r4.one
  refine wpAny_updateSeq e7 rfl ?_ (by show 1 ≤ sizeLine; rw [sizeLine_eq]; decide) (by show 0 ≤ sizeLine + 1; exact Nat.zero_le _)
  refine wpAny_pure ⟨plainId_quiet PySem.F.plain_extend_loop _, loop _ ?_⟩
  have I7 := I6.lset (f := (·.pop)) (its := [u4]) (its' := []) (ys := []) (t' := s4.toks + 1) upd_same e7 (by rfl) .nil (Nat.zero_le _)
  rw [upd_upd] at I7
  have hH2 : upd H4 q (.lst []) = H4 := by
    funext b
    by_cases hb : b = q
    · rw [hb, upd_same, e1]
    · rw [upd_ne hb]
  rw [hH2] at I7
  exact I7
end

/-- list(x), x an instance of c whose __iter__ hands out the iterator of the tuple x.f, and with its own __len__ -/
def oList (c : Nat) (f : Str) (m : List D → Store → Res D) : List D → Store → Res D := fun ds st => match ds with
  | [d] => match fv st d with
    | some (c2, fs) => if c2 = c then (match fs.lookup f with
      | some (.tup xs) => if xs.length ≤ lim then (match m [d] st with
        | .ok (.int i) st2 => if 0 ≤ i ∧ i.toNat ≤ lim then .ok (.lst xs) st2 else .stuck
        | _ => .stuck) else .stuck
      | _ => .stuck) else .stuck
    | none => .stuck
  | _ => .stuck
section
variable {G : Gd} {ct : Ct} {k j c : Nat} {W : St → XK} {m : List D → Store → Res D} {f : Str}
theorem db_listIt (FI : It1 G c f j) (F : Ow G c "__len__" 1 j m) (hj : j + 3 ≤ k) : DBI G ct k W (.type "list") (oList c f m) := by
  obtain ⟨gi, fdi, psi, i1, i2, I1, I2⟩ := FI.ex
  obtain ⟨gl, fdl, psl, o1, o2, o3, F1, F2⟩ := F.ex
  refine ⟨fun _ => rListIt G.K (G.C c) f (SpD G.T 1 m), fun X h pins s σ H xs us Q I rx q => ?_, fun σ w H ds xs st Q rd q hp => ?_⟩
  · rw [← h.K] at q
    exact call_listIt (T := G.T) (c := c) (by rw [h.K]) (by rw [h.K]; exact i1) (by rw [h.K]; exact i2) (h.fnOk I1) (by rw [h.K]; exact I2) (by rw [h.K]; exact o1) (by rw [h.K]; exact o2) (h.fnOk F1) (by rw [h.K]; exact F2) (h.room.mono hj) pins s σ H xs us Q I rx q
  · unfold oList at hp
    split at hp
    · rename_i d
      obtain ⟨v, rfl, rv⟩ := reps1 rd
      split at hp
      · rename_i c2 fs hf
        split at hp
        · rename_i hc
          subst hc
          split at hp
          · rename_i ys hl
            split at hp
            · rename_i hlen
              obtain ⟨a, dx, ws, rfl, e1, rr⟩ := fv_rep q rv hf
              obtain ⟨v2, hv2, p, vs, rfl, ta, rys⟩ := repF_get rr hl
              have hln := rys.len
              refine ⟨a, dx, ws, p, vs, rfl, e1, hv2, ta.sq, by rw [← hln]; exact Nat.lt_of_le_of_lt hlen lim_lt, fun lq it nq ni ne => ?_⟩
              have ni2 : upd H lq (.lst []) it = none := by rw [upd_ne ne]; exact ni
              have s1 : Step w H ⟨w.as, lq :: w.ps⟩ (upd H lq (.lst [])) := Step.open q nq
              have q1 : WH G.T ⟨w.as, lq :: w.ps⟩ (upd H lq (.lst [])) st := q.open nq
              have s2 := s1.trans (Step.open (o := ItT p it 0) q1 ni2)
              have q2 := q1.open (o := ItT p it 0) ni2
              have okq := q.new nq
              have oki := q.new ni
              refine ⟨_, st, [d], rfl, q2, Reps.mono s2 _ _ rd, ?_⟩
              split at hp
              · rename_i i st2 hm
                split at hp
                · rename_i hi
                  rw [hm]
                  intro w3 H3 v3 s3 q3 r3
                  have sl := lim_le
                  have k1 : H3 lq = some (.lst []) := s3.keep lq _ okq.1 (by rw [upd_ne (Ne.symm ne), upd_same])
                  have k2 : H3 it = some (ItT p it 0) := s3.keep it _ oki.1 upd_same
                  have s03 := s2.trans s3
                  have t3 := ta.mono s03
                  obtain ⟨rr3, hrr3⟩ := s3.pre
                  have ps3 := q3.pst
                  obtain ⟨pq, hpq, npq⟩ := s3.pend
                  have mq : lq ∈ w3.ps := by rw [hpq]; exact List.mem_append_right _ (List.mem_cons_of_mem _ List.mem_cons_self)
                  have mi : it ∈ w3.ps := by rw [hpq]; exact List.mem_append_right _ List.mem_cons_self
                  have big : lim < 2 ^ 62 := by decide
                  refine ⟨i, r3, ⟨hi.1, by omega⟩, Nat.le_trans hi.2 sl, k1, k2, t3.sq, ?_⟩
                  -- the two that were in the making are done
                  have s4 : Step w H ⟨w3.as, w.ps⟩ (upd (upd H3 it (ItG it)) lq (.lst vs)) := by
                    have z := ((s03.pending (p := it) (o := ItG it) ni).pending (p := lq) (o := .lst vs) nq).shut
                    exact z
                  have kp3 : Kp w3 H3 ⟨w3.as, w.ps⟩ (upd (upd H3 it (ItG it)) lq (.lst vs)) := by
                    refine ⟨fun b o hb e => ⟨⟨hb.1, fun hm2 => hb.2 ?_⟩, ?_⟩, fun i a e => e⟩
                    · rw [hpq]
                      exact List.mem_append_right _ (List.mem_cons_of_mem _ (List.mem_cons_of_mem _ hm2))
                    · have n1 : b ≠ it := fun z => hb.2 (by rw [z]; exact mi)
                      have n2 : b ≠ lq := fun z => hb.2 (by rw [z]; exact mq)
                      rw [upd_ne n2, upd_ne n1]; exact e
                  have q4 : WH G.T ⟨w3.as, w.ps⟩ (upd (upd H3 it (ItG it)) lq (.lst vs)) st2 := by
                    refine ⟨q3.len, q3.nd, fun i a mo h1 h2 => (q3.obs i a mo h1 h2).kp kp3 fun o e => ?_, q3.ord, fun p2 hp2 => ?_⟩
                    · have ma : a ∈ w3.as := List.mem_iff_getElem?.mpr ⟨i, h1⟩
                      have n1 : a ≠ it := fun z => (ps3 it mi).1 (by rw [← z]; exact ma)
                      have n2 : a ≠ lq := fun z => (ps3 lq mq).1 (by rw [← z]; exact ma)
                      rw [upd_ne n2, upd_ne n1]; exact e
                    · have mp : p2 ∈ w3.ps := by rw [hpq]; exact List.mem_append_right _ (List.mem_cons_of_mem _ (List.mem_cons_of_mem _ hp2))
                      obtain ⟨n, o, e⟩ := ps3 p2 mp
                      refine ⟨n, ?_⟩
                      by_cases z : p2 = lq
                      · rw [z]; exact ⟨_, upd_same⟩
                      · rw [upd_ne z]
                        by_cases z2 : p2 = it
                        · rw [z2]; exact ⟨_, upd_same⟩
                        · rw [upd_ne z2]; exact ⟨o, e⟩
                  refine hp ⟨w3.as, w.ps⟩ _ (.ref lq) s4 q4 ⟨lq, vs, rfl, ⟨⟨(ps3 lq mq).1, okq.2⟩, upd_same⟩, Reps.mono s4 _ _ rys⟩
                · exact hp.elim
              · exact hp.elim
            · exact hp.elim
          · exact hp.elim
        · exact hp.elim
      · exact hp.elim
    · exact hp.elim
end
end DL
end
section
set_option Elab.async false
set_option linter.all false
set_option maxRecDepth 100000
set_option maxHeartbeats 2000000
namespace DL
open PySem L2

/-! ### an instance called; a classmethod; a class that is a value called; a class made with defaults -/
section
variable {X : Cx} {CX : CXT} {k : Nat} {f C g p : Addr} {fd : FuncData} {ps : List Str} {sp : Sp} {x m : Str} {pos apos : Pos} {e o fe : Expr} {es : List Expr} {ta tf : TE} {t : TA} {mc : Value}
theorem run_code {E : XK} {pins : List (Addr × Obj)} {σ : St} {H : Hp} {s : Shared} {Q : VK} {us : List Value} {vs : List V} (F : FnOk X.prog X.w X.K X.mg X.base CX k f fd ps sp) (hr : Room k X.A) (hb : Binds X.K fd ps []) (hx : PassesAt CX X σ E)
    (I : Inv X pins σ H s) (r : Vals vs us) (h : sp vs H Q E) : codeAny (model X.prog X.w) X.A (.call (.ref f) ⟨us, []⟩) (fun r s' => match r with | .ok (.ret v) => EP X pins σ Q v s' | .ok _ => False | .error e => X.xe e s') s := by
  have hl : (us ++ ([] : List Value)).length = ps.length := by rw [List.append_nil, ← r.length]; exact F.len _ _ _ _ h
  have b := hb s us I.kIn hl
  rw [List.append_nil] at b
  refine codeAny_mono (F.run X.A X.stack s H ⟨us, []⟩ us vs Q E hr I.env0 b r h) fun r s' hq => ?_
  cases r with
  | error e => exact hx pins H s e s' I hq
  | ok fl =>
    cases fl with
    | ret u => exact I.after hq
    | next => exact False.elim hq
    | brk => exact False.elim hq
    | cont => exact False.elim hq
/-- f(e, ..), f an expression that gives an instance of C -/
def tCO (C : Addr) (sp : Sp) (E : St → XK) (tf : TE) (t : TA) : TE := fun σ H Q => tf σ H fun y H1 => ∃ a, y = V.ref a ∧ t σ H1 fun vs H2 => (∃ dx fs, H2 a = some (.ins C dx fs)) ∧ sp (V.ref a :: vs) H2 Q (E σ)
theorem pe_cO {E : St → XK} (hf : PE X fe tf) (c : StX.CallO X.K C g) (F : FnOk X.prog X.w X.K X.mg X.base CX k g fd ps sp) (hr : Room k X.A) (hb : Binds X.K fd ps []) (hx : ∀ σ, PassesAt CX X σ (E σ)) (ha : PA X (e :: es) t)
    (ht : eval (.Call fe (e :: es) [] pos) X.env = (do callWith pos (← eval fe X.env) [] (backTo pos (starEach (e :: es) X.env)) (backToKw pos (keywordEach [] X.env))))
    (he : starEach (e :: es) X.env = (false, eval e X.env) :: starEach es X.env) (hpl : (backTo pos (starEach es X.env)).any (·.1) = false) : PE X (.Call fe (e :: es) [] pos) (tCO C sp E tf t) := by
  refine ⟨fun pins s σ H Q I h => ?_⟩
  refine PyProof.Rows.Call_ (thn (hf.run pins s σ H _ I h) fun u s1 ⟨y, H1, I1, ry, a, ey, q⟩ => ?_) ht
  subst ey
  obtain rfl : u = Value.ref a := ry
  refine StX.callO_with (thn (ha.run pos pins s1 σ H1 _ I1 q) fun us s2 ⟨vs, H2, I2, r, hi, q2⟩ => ?_) he hpl
  obtain ⟨ox, od, J, hd⟩ := StX.insC_at I2 (.inr hi)
  exact ⟨⟨C, ox, od, J, hd⟩, wpAny_call (PySem.W.kco_code I2.kIn J hd c.at_ c.fn c.fi (run_code (us := .ref a :: us) (vs := .ref a :: vs) F hr hb (hx σ) I2 (.cons rfl r) q2))⟩
/-- e.m(..), e the class at C, m a classmethod -/
def tCM (C : Addr) (sp : Sp) (E : St → XK) (ta : TE) (t : TA) : TE := fun σ H Q => ta σ H fun x H1 => x = .ref C ∧ t σ H1 fun vs H2 => sp (.ref C :: vs) H2 Q (E σ)
theorem pe_cM {E : St → XK} {pl : Sem Bool} (he : PE X o ta) (r : ClX.CRead X.K C mc) (c : ClX.CMet X.K C mc m p g) (F : FnOk X.prog X.w X.K X.mg X.base CX k g fd ps sp) (hr : Room k X.A) (hb : Binds X.K fd ps []) (hx : ∀ σ, PassesAt CX X σ (E σ)) (ha : PA X (e :: es) t)
    (hst : starEach (e :: es) X.env = (false, eval e X.env) :: starEach es X.env) (hpl : (backTo pos (starEach es X.env)).any (·.1) = false)
    (ht : eval (.Call (.Attribute o m apos) (e :: es) [] pos) X.env = (do
      let ov ← eval o X.env
      standAt apos.atName
      let (f, first) ← holding [ov] (getMethod ov m pl)
      callWith pos f first (backTo pos (starEach (e :: es) X.env)) (backToKw pos (keywordEach [] X.env)))) :
    PE X (.Call (.Attribute o m apos) (e :: es) [] pos) (tCM C sp E ta t) := by
  refine ⟨fun pins s σ H Q I h => ?_⟩
  refine PySem.W.methodCall_KW (pl := pl) (thn (he.run pins s σ H _ I h) fun u s1 ⟨x, H1, I1, rx, ex, q⟩ => ?_) ht
  subst ex
  obtain rfl : u = Value.ref C := rx
  refine ClX.getmethcm_ok I1 r c fun s2 I2 => ?_
  refine ClX.callwith_cm I2 (ClX.base_none I1 (Nat.le_refl _)) c.fi (thn (ha.run pos _ s2 σ H1 _ I2 q) fun us s3 ⟨vs, H2, I3, rv, q2⟩ => ⟨⟨ClX.pin_at I3, I3.kIn⟩, ?_⟩) hst hpl
  have z := wpAny_call (PySem.W.method_call (ClX.pin_at I3) (run_code (us := .ref C :: us) (vs := .ref C :: vs) F hr hb (hx σ) I3 (.cons rfl rv) q2))
  exact thn z fun _ _ y => ClX.unpinE y
/-- f(..), f an expression that gives the class at C -/
def tMkV (C : Addr) (sp : Sp) (E : St → XK) (tf : TE) (t : TA) : TE := fun σ H Q => tf σ H fun y H1 => y = .ref C ∧ t σ H1 fun vs H2 => ∀ x dx, H2 x = none → H2 dx = none → dx ≠ x →
  sp (.ref x :: vs) (upd (upd H2 dx (.own x)) x (.ins C dx [])) (fun v H3 => v = .non ∧ Q (.ref x) H3) (E σ)
theorem pe_mkV {E : St → XK} (hf : PE X fe tf) (M : Mk X.K C f) (F : FnOk X.prog X.w X.K X.mg X.base CX k f fd ps sp) (hr : Room (k + 1) X.A) (hb : Binds X.K fd ps []) (hx : ∀ σ, PassesAt CX X σ (E σ))
    (ha : PA X (e :: es) t) (ht : eval (.Call fe (e :: es) [] pos) X.env = (do callWith pos (← eval fe X.env) [] (backTo pos (starEach (e :: es) X.env)) (backToKw pos (keywordEach [] X.env))))
    (he : starEach (e :: es) X.env = (false, eval e X.env) :: starEach es X.env) (hpl : (backTo pos (starEach es X.env)).any (·.1) = false) :
    PE X (.Call fe (e :: es) [] pos) (tMkV C sp E tf t) := ⟨fun pins s σ H Q I h => by
  refine PyProof.Rows.Call_ (thn (hf.run pins s σ H _ I h) fun u s1 ⟨y, H1, I1, ry, ey, q⟩ => ?_) ht
  subst ey
  obtain rfl : u = Value.ref C := ry
  exact PySem.W.callWith_K (h₀ := X.base) I1.ok.mod.kin M.kp (thn (ha.run pos pins s1 σ H1 _ I1 q) fun us s2 ⟨vs, H2, I2, r, q2⟩ => ⟨I2.kIn, run_mk M F hr hb (hx σ) I2 r q2⟩) he hpl⟩
/-- C(..) where the last parameters have defaults -/
theorem run_mkD {E : XK} {pins : List (Addr × Obj)} {σ : St} {H : Hp} {s : Shared} {Q : VK} {us ds : List Value} {vs dvs : List V} (M : Mk X.K C f) (F : FnOk X.prog X.w X.K X.mg X.base CX k f fd ps sp) (hr : Room (k + 1) X.A) (hb : Binds X.K fd ps ds) (hd : Vals dvs ds)
    (hx : PassesAt CX X σ E) (I : Inv X pins σ H s) (r : Vals vs us)
    (h : ∀ x dx, H x = none → H dx = none → dx ≠ x → sp (.ref x :: (vs ++ dvs)) (upd (upd H dx (.own x)) x (.ins C dx [])) (fun v H2 => v = .non ∧ Q (.ref x) H2) E) :
    wpAny (model X.prog X.w) X.A (call (.ref C) us) (EP X pins σ Q) X.xe s := by
  have fresh := I.hok.fresh (Nat.le_refl s.heap.objs.size)
  have fresh1 := I.hok.fresh (Nat.le_succ s.heap.objs.size)
  have q := h _ _ fresh1 fresh (Nat.ne_of_lt (Nat.lt_succ_self _))
  have J := Inv.made (C := C) I
  have rv : Vals (V.ref (s.heap.objs.size + 1) :: (vs ++ dvs)) (Value.ref (s.heap.objs.size + 1) :: (us ++ ds)) := .cons rfl (r.append hd)
  have len : (Value.ref (s.heap.objs.size + 1) :: us ++ ds).length = ps.length := by
    have z := F.len _ _ _ _ q
    rw [rv.length] at z
    exact z
  have bind := hb _ (Value.ref (s.heap.objs.size + 1) :: us) J.kIn len
  have run := F.run _ X.stack _ _ _ _ _ _ E (hr.make C us []) (J.env0.make C us []) bind rv q
  refine wpAny_call (make_map (f := f) I.kIn M.makes M.init (beq_iff_eq.mp M.fn) (codeAny_mono run fun out s' got => ?_))
  match out, got with
  | .error e, got => exact hx pins _ _ e s' J got
  | .ok (.ret u), got =>
    obtain ⟨v, H', I3, ru, ev, done⟩ := J.after got
    subst ev
    exact ⟨ru, .ref (s.heap.objs.size + 1), H', I3, rfl, done⟩
  | .ok .next, got => exact got.elim
  | .ok .brk, got => exact got.elim
  | .ok .cont, got => exact got.elim
def tMkD (C : Addr) (sp : Sp) (dvs : List V) (E : St → XK) (t : TA) : TE := fun σ H Q => t σ H fun vs H1 => ∀ x dx, H1 x = none → H1 dx = none → dx ≠ x →
  sp (.ref x :: (vs ++ dvs)) (upd (upd H1 dx (.own x)) x (.ins C dx [])) (fun v H2 => v = .non ∧ Q (.ref x) H2) (E σ)
theorem pe_mkD {E : St → XK} {ds : List Value} {dvs : List V} (M : Mk X.K C f) (F : FnOk X.prog X.w X.K X.mg X.base CX k f fd ps sp) (hr : Room (k + 1) X.A) (hg : Gl X x) (hm : X.mg x = some (.ref C)) (hb : Binds X.K fd ps ds) (hd : Vals dvs ds) (hx : ∀ σ, PassesAt CX X σ (E σ))
    {pn : Pos} (ha : PA X (e :: es) t) (hdb : (x == ("__debug__" : Str)) = false) (he : starEach (e :: es) X.env = (false, eval e X.env) :: starEach es X.env) (hpl : (backTo pos (starEach es X.env)).any (·.1) = false) :
    PE X (.Call (.Name x pn) (e :: es) [] pos) (tMkD C sp dvs E t) := ⟨fun pins s σ H Q I h =>
  wpAny_Call_Name_kw (ld_glob I hg hm (PySem.W.callWith_K (h₀ := X.base) I.ok.mod.kin M.kp (thn (ha.run pos pins s σ H _ I h) fun us s1 ⟨vs, H1, I1, r, q⟩ => ⟨I1.kIn, run_mkD M F hr hb hd (hx σ) I1 r q⟩) he hpl) hdb)⟩
theorem pe_mkD0 {E : St → XK} {ds : List Value} {dvs : List V} (M : Mk X.K C f) (F : FnOk X.prog X.w X.K X.mg X.base CX k f fd ps sp) (hr : Room (k + 1) X.A) (hg : Gl X x) (hm : X.mg x = some (.ref C)) (hb : Binds X.K fd ps ds) (hd : Vals dvs ds) (hx : ∀ σ, PassesAt CX X σ (E σ))
    {pn : Pos} (hdb : (x == ("__debug__" : Str)) = false) : PE X (.Call (.Name x pn) [] [] pos) (tMkD C sp dvs E tNil) := ⟨fun pins s σ H Q I h =>
  wpAny_Call_Name_kw (ld_glob I hg hm (PySem.W.callWith_K0 I.kIn M.kp (run_mkD (us := []) (vs := []) M F hr hb hd (hx σ) I .nil h)) hdb)⟩
end

/-! ### in mirrors -/
structure CoF (G : Gd) (c n j : Nat) (m : List D → Store → Res D) : Prop where
  ex : ∃ (g : Addr) (fd : FuncData) (ps : List Str), StX.CallO G.K (G.C c) g ∧ FnOk G.P G.w G.K G.mg G.base (L2N.CX G.P G.w) j g fd ps (SpD G.T (n + 1) m) ∧ Binds G.K fd ps []
structure CmF (G : Gd) (c : Nat) (z : Str) (n j : Nat) (m : List D → Store → Res D) : Prop where
  ex : ∃ (mc : Value) (p g : Addr) (fd : FuncData) (ps : List Str), ClX.CRead G.K (G.C c) mc ∧ ClX.CMet G.K (G.C c) mc z p g ∧ FnOk G.P G.w G.K G.mg G.base (L2N.CX G.P G.w) j g fd ps (SpD G.T (n + 1) m) ∧ Binds G.K fd ps []
/-- a class, made with defaults dds behind the given ones -/
structure KmD (G : Gd) (x : Str) (c n j : Nat) (dds : List D) (m : List D → Store → Res D) : Prop where
  ex : ∃ (f : Addr) (fd : FuncData) (ps : List Str) (ds : List Value) (dvs : List V), Mk G.K (G.C c) f ∧ G.mg x = some (.ref (G.C c)) ∧ FnOk G.P G.w G.K G.mg G.base (L2N.CX G.P G.w) j f fd ps (SpD G.T (n + 1) m) ∧ Binds G.K fd ps ds ∧ Vals dvs ds ∧ ∀ w H, Reps G.T w H dds dvs
def mCallO (c : Nat) (m : List D → Store → Res D) (mf : ME) (ma : MA) : ME := fun env st => (mf env st).bind fun d st1 => match fv st1 d with
  | some _ => (ma env st1).bind fun ds st2 => match fv st2 d with
    | some (c2, _) => if c2 = c then m (d :: ds) st2 else .stuck
    | none => .stuck
  | none => .stuck
def mCMeth (c : Nat) (m : List D → Store → Res D) (mo : ME) (ma : MA) : ME := fun env st => (mo env st).bind fun d st1 => match d with
  | .cls c2 => if c2 = c then (ma env st1).bind fun ds st2 => m (.cls c :: ds) st2 else .stuck
  | _ => .stuck
def mMakeV (c : Nat) (m : List D → Store → Res D) (mf : ME) (ma : MA) : ME := fun env st => (mf env st).bind fun d st1 => match d with
  | .cls c2 => if c2 = c then (ma env st1).bind fun ds st2 => dMake c m ds st2 else .stuck
  | _ => .stuck
section
variable {G : Gd} {ct : Ct} {k j n c : Nat} {W : St → XK} {m : List D → Store → Res D} {fe e o : Expr} {es : List Expr} {mf mo : ME} {ma : MA} {p pos apos : Pos} {x z : Str}
theorem de_callO (F : CoF G c n j m) (hj : j ≤ k) (hf : DE G ct k W fe mf) (ha : DA G ct k W (e :: es) ma) (hl : ArgN ma n)
    (ht : ∀ env, eval (.Call fe (e :: es) [] pos) env = (do callWith pos (← eval fe env) [] (backTo pos (starEach (e :: es) env)) (backToKw pos (keywordEach [] env))) := by intro _; rfl)
    (he : ∀ env, starEach (e :: es) env = (false, eval e env) :: starEach es env := by intro _; rfl) (hpl : ∀ env, (backTo pos (starEach es env)).any (·.1) = false := by intro _; rfl) :
    DE G ct k W (.Call fe (e :: es) [] pos) (mCallO c m mf ma) := by
  obtain ⟨g, fd, ps, c0, F1, F2⟩ := F.ex
  obtain ⟨t, h1, h2⟩ := hf
  obtain ⟨u, h3, h4⟩ := ha
  refine ⟨tCO (G.C c) (SpD G.T (n + 1) m) W t u, fun X h => pe_cO (h1 X h) (by rw [h.K]; exact c0) (h.fnOk F1) (h.room.mono hj) (by rw [h.K]; exact F2) (fun σ => L2N.passAt h.tk σ) (h3 X h) (ht _) (he _) (hpl _), fun as H σ env st Q e w h => ?_⟩
  refine h2 as H σ env st _ e w (Post.imp h fun d st1 w1 H1 y _ s1 q1 r1 h1 => ?_)
  cases hf1 : fv st1 d with
  | none => rw [hf1] at h1; exact h1.elim
  | some cf =>
    rw [hf1] at h1
    obtain ⟨a, dx, ws, rfl, e1, rr⟩ := fv_rep q1 r1 hf1
    refine ⟨a, rfl, ?_⟩
    refine h4 w1 H1 σ env st1 _ (e.mono s1) q1 (Post.imp h1 fun ds st2 w2 H2 xs hok s2 q2 r2 h2 => ?_)
    have rd := Rep.mono s2 _ _ r1
    split at h2
    · rename_i c2 fs hf2
      split at h2
      · rename_i hc
        subst hc
        obtain ⟨a2, dx2, ws2, e0, e2, rr2⟩ := fv_rep q2 rd hf2
        cases e0
        exact ⟨⟨dx2, ws2, e2⟩, w2, st2, d :: ds, by rw [List.length_cons, hl.len env st1 ds st2 hok], q2, ⟨_, xs, rfl, rd, r2⟩, h2⟩
      · exact h2.elim
    · exact h2.elim
theorem de_cmeth (F : CmF G c z n j m) (hj : j ≤ k) (ho : DE G ct k W o mo) (ha : DA G ct k W (e :: es) ma) (hl : ArgN ma n) {pl : Env → Sem Bool}
    (hst : ∀ env, starEach (e :: es) env = (false, eval e env) :: starEach es env := by intro _; rfl) (hpl : ∀ env, (backTo pos (starEach es env)).any (·.1) = false := by intro _; rfl)
    (ht : ∀ env, eval (.Call (.Attribute o z apos) (e :: es) [] pos) env = (do
      let ov ← eval o env
      standAt apos.atName
      let (f, first) ← holding [ov] (getMethod ov z (pl env))
      callWith pos f first (backTo pos (starEach (e :: es) env)) (backToKw pos (keywordEach [] env))) := by intro _; rfl) :
    DE G ct k W (.Call (.Attribute o z apos) (e :: es) [] pos) (mCMeth c m mo ma) := by
  obtain ⟨mc, p, g, fd, ps, c1, c2, F1, F2⟩ := F.ex
  obtain ⟨t, h1, h2⟩ := ho
  obtain ⟨u, h3, h4⟩ := ha
  refine ⟨tCM (G.C c) (SpD G.T (n + 1) m) W t u, fun X h => pe_cM (pl := pl X.env) (h1 X h) (by rw [h.K]; exact c1) (by rw [h.K]; exact c2) (h.fnOk F1) (h.room.mono hj) (by rw [h.K]; exact F2) (fun σ => L2N.passAt h.tk σ) (h3 X h) (hst _) (hpl _) (ht _), fun as H σ env st Q e w h => ?_⟩
  refine h2 as H σ env st _ e w (Post.imp h fun d st1 w1 H1 y _ s1 q1 r1 h1 => ?_)
  cases d with
  | cls c3 =>
    dsimp only at h1
    split at h1
    · rename_i hc
      subst hc
      refine ⟨r1, ?_⟩
      refine h4 w1 H1 σ env st1 _ (e.mono s1) q1 (Post.imp h1 fun ds st2 w2 H2 xs hok s2 q2 r2 h2 => ?_)
      exact ⟨w2, st2, .cls c3 :: ds, by rw [List.length_cons, hl.len env st1 ds st2 hok], q2, ⟨_, xs, rfl, rfl, r2⟩, h2⟩
    · exact h1.elim
  | _ => exact h1.elim
theorem mk_in {T : Tb} {C : Addr} (hC : C = T.C c) {w1 : Wd} {H1 : Hp} {st1 : Store} {ds : List D} {xs : List V} {Q : VK} {E : XK} (hl : ds.length = n) (q1 : WH T w1 H1 st1) (r1 : Reps T w1 H1 ds xs) (h1 : Post T (Rep T) w1 H1 (dMake c m ds st1) Q E) :
    ∀ x dx, H1 x = none → H1 dx = none → dx ≠ x → SpD T (n + 1) m (.ref x :: xs) (upd (upd H1 dx (.own x)) x (.ins C dx [])) (fun v H3 => v = .non ∧ Q (.ref x) H3) E := by
  subst hC
  intro x dx nx nd ne
  have s2 : Step w1 H1 w1 (upd H1 dx (.own x)) := .node nd
  have q2 : WH T w1 (upd H1 dx (.own x)) st1 := q1.node nd
  have nx2 : upd H1 dx (.own x) x = none := by rw [upd_ne (Ne.symm ne)]; exact nx
  have s3 : Step w1 (upd H1 dx (.own x)) (w1.add x) (upd (upd H1 dx (.own x)) x (.ins (T.C c) dx [])) := .obj nx2
  have q3 : WH T (w1.add x) (upd (upd H1 dx (.own x)) x (.ins (T.C c) dx [])) (st1 ++ [.ins c []]) := q2.obj nx2 ⟨dx, [], upd_same, rfl⟩ rfl
  have s4 := s2.trans s3
  have at_ : (w1.add x).as[st1.length]? = some x := by
    show (w1.as ++ [x])[st1.length]? = some x
    rw [← q1.len, List.getElem?_append_right (Nat.le_refl _), Nat.sub_self]
    rfl
  refine ⟨w1.add x, st1 ++ [.ins c []], .box st1.length :: ds, by rw [List.length_cons, hl], q3, ⟨.ref x, xs, rfl, ⟨x, rfl, at_⟩, Reps.mono s4 _ _ r1⟩, ?_⟩
  unfold dMake at h1
  refine Post.imp (Post.mono s4 h1) fun r st2 w2 H2 v _ s5 q5 r5 h5 => ?_
  cases r with
  | non => exact ⟨r5, h5 w2 H2 _ .refl q5 ⟨x, rfl, s5.kp.mu _ _ at_⟩⟩
  | _ => exact h5.elim
theorem de_makeV (F : Km G x c n j m) (hj : j + 1 ≤ k) (hf : DE G ct k W fe mf) (ha : DA G ct k W (e :: es) ma) (hl : ArgN ma n)
    (ht : ∀ env, eval (.Call fe (e :: es) [] pos) env = (do callWith pos (← eval fe env) [] (backTo pos (starEach (e :: es) env)) (backToKw pos (keywordEach [] env))) := by intro _; rfl)
    (he : ∀ env, starEach (e :: es) env = (false, eval e env) :: starEach es env := by intro _; rfl) (hpl : ∀ env, (backTo pos (starEach es env)).any (·.1) = false := by intro _; rfl) :
    DE G ct k W (.Call fe (e :: es) [] pos) (mMakeV c m mf ma) := by
  obtain ⟨f, M, hm, ⟨fd, ps, F1, F2⟩⟩ := F.ex
  obtain ⟨t, h1, h2⟩ := hf
  obtain ⟨u, h3, h4⟩ := ha
  refine ⟨tMkV (G.C c) (SpD G.T (n + 1) m) W t u, fun X h => pe_mkV (h1 X h) (by rw [h.K]; exact M) (h.fnOk F1) (h.room.mono hj) (by rw [h.K]; exact F2) (fun σ => L2N.passAt h.tk σ) (h3 X h) (ht _) (he _) (hpl _), fun as H σ env st Q e w h => ?_⟩
  refine h2 as H σ env st _ e w (Post.imp h fun d st1 w1 H1 y _ s1 q1 r1 h1 => ?_)
  cases d with
  | cls c3 =>
    dsimp only at h1
    split at h1
    · rename_i hc
      subst hc
      refine ⟨r1, ?_⟩
      refine h4 w1 H1 σ env st1 _ (e.mono s1) q1 (Post.imp h1 fun ds st2 w2 H2 xs hok s2 q2 r2 h2 => ?_)
      exact mk_in rfl (hl.len env st1 ds st2 hok) q2 r2 h2
    · exact h1.elim
  | _ => exact h1.elim
theorem reps_appD {T : Tb} {w : Wd} {H : Hp} {d2 : List D} {v2 : List V} (h2 : Reps T w H d2 v2) : ∀ (ds : List D) (xs : List V), Reps T w H ds xs → Reps T w H (ds ++ d2) (xs ++ v2)
  | [], xs, h => by rw [show xs = [] from h]; exact h2
  | a :: l, xs, h => by
    obtain ⟨v, r, e, h1, h3⟩ := h
    subst e
    exact ⟨v, r ++ v2, rfl, h1, reps_appD h2 l r h3⟩
theorem sim_mkD {nw : Nat} {dds : List D} {dvs : List V} {t : TA} (hl : ∀ env st ds st', ma env st = .ok ds st' → ds.length = nw) (hn : nw + dds.length = n) (hd : ∀ w H, Reps G.T w H dds dvs) (ha : SimA G.T W t ma) :
    SimE G.T W (tMkD (G.C c) (SpD G.T (n + 1) m) dvs W t) (mCall (fun ds st => dMake c m (ds ++ dds) st) ma) := fun as H σ env st Q e w h =>
  ha as H σ env st _ e w (Post.imp h fun ds st1 w1 H1 xs hok s1 q1 r1 h1 => mk_in rfl (by rw [List.length_append, hl env st ds st1 hok]; exact hn) q1 (reps_appD (hd w1 H1) _ _ r1) h1)
theorem de_makeD {nw : Nat} {dds : List D} (F : KmD G x c n j dds m) (hj : j + 1 ≤ k) (hg : ct.sc.names.lookup x = some .globalImplicit) (ha : DA G ct k W (e :: es) ma) (hl : ArgN ma nw) (hn : nw + dds.length = n)
    (hdb : (x == ("__debug__" : Str)) = false := by decide) (he : ∀ env, starEach (e :: es) env = (false, eval e env) :: starEach es env := by intro _; rfl) (hpl : ∀ env, (backTo pos (starEach es env)).any (·.1) = false := by intro _; rfl) :
    DE G ct k W (.Call (.Name x p) (e :: es) [] pos) (mCall (fun ds st => dMake c m (ds ++ dds) st) ma) := by
  obtain ⟨f, fd, ps, ds, dvs, M, hm, F1, F2, F3, F4⟩ := F.ex
  obtain ⟨t, h1, h2⟩ := ha
  refine ⟨tMkD (G.C c) (SpD G.T (n + 1) m) dvs W t, fun X h => ?_, sim_mkD hl.len hn F4 h2⟩
  exact pe_mkD (by rw [h.K]; exact M) (h.fnOk F1) (h.room.mono hj) (h.gl hg) (by rw [h.mg]; exact hm) (by rw [h.K]; exact F2) F3 (fun σ => L2N.passAt h.tk σ) (h1 X h) hdb (he _) (hpl _)
theorem de_makeD0 {dds : List D} (F : KmD G x c n j dds m) (hj : j + 1 ≤ k) (hg : ct.sc.names.lookup x = some .globalImplicit) (hn : dds.length = n) (hdb : (x == ("__debug__" : Str)) = false := by decide) :
    DE G ct k W (.Call (.Name x p) [] [] pos) (mCall (fun ds st => dMake c m (ds ++ dds) st) mNil) := by
  obtain ⟨f, fd, ps, ds, dvs, M, hm, F1, F2, F3, F4⟩ := F.ex
  refine ⟨tMkD (G.C c) (SpD G.T (n + 1) m) dvs W tNil, fun X h => ?_, sim_mkD (nw := 0) (ArgN.nil).len (by omega) F4 sim_nil⟩
  exact pe_mkD0 (by rw [h.K]; exact M) (h.fnOk F1) (h.room.mono hj) (h.gl hg) (by rw [h.mg]; exact hm) (by rw [h.K]; exact F2) F3 (fun σ => L2N.passAt h.tk σ) hdb
end
end DL
end
section
set_option Elab.async false
set_option linter.all false
set_option maxRecDepth 100000
set_option maxHeartbeats 2000000
namespace DL
open PySem L2
open PyProof.Rows (IsTup)

/-! ### tuples made plain; dict(t) of such a tuple of pairs -/
def PtT (K : PySem.W.Frag) (H : Hp) (a : Addr) (vs : List V) : Prop := (∃ o : Obj, H a = some (.frz o (.tup vs)) ∧ o.dict = none) ∨
  ∃ (o : Obj) (its : Array Value) (n : Nat), K.lookup a = some o ∧ o.cls = .type "tuple" ∧ o.dict = none ∧ o.data = .seq its n ∧ its.size ≤ sizeLine ∧ Vals vs its.toList
theorem PtpAt.pt {T : Tb} {w : Wd} {H : Hp} {a : Addr} {vs : List V} (h : PtpAt T w H a vs) : PtT T.K H a vs := by
  rcases h with ⟨_, h⟩ | h
  · exact .inl h
  · exact .inr h
section
variable {X : Cx} {pins : List (Addr × Obj)} {σ : St} {H : Hp} {s : Shared}
theorem pt_at {a : Addr} {vs : List V} (I : Inv X pins σ H s) (h : PtT X.K H a vs) : ∃ its : List Value, Vals vs its ∧ PySem.PlainSeq "tuple" s.heap a its.toArray ∧ vs.length ≤ sizeLine := by
  rcases h with ⟨o, e, hd⟩ | ⟨o, its, n, hk, hc, hd, hs, hz, r⟩
  · obtain ⟨e1, z, its, r, o2, e2, hc, n, hdat⟩ := I.hok a _ e
    rw [e1] at e2
    cases e2
    exact ⟨its, r, ⟨o, n, e1, hc, hd, hdat⟩, z⟩
  · refine ⟨its.toList, r, ⟨o, n, I.kIn a o hk, hc, hd, by simpa using hs⟩, ?_⟩
    rw [r.length]
    simpa using hz
theorem pairs_at (I : Inv X pins σ H s) : ∀ {ps : List Addr} {kvs : List (Key × V)}, Paired (fun p kv => SqT X.K H p [kV kv.1, kv.2]) ps kvs →
    ∃ (prs : List (Key × Value)) (uvs : List (Value × Value)), KV kvs prs ∧ prs.length = ps.length ∧ uvs.length = ps.length ∧
      ∀ (j : Nat) (u v : Value), uvs[j]? = some (u, v) → (∃ b, ps[j]? = some b ∧ IsTup s.heap b #[u, v]) ∧ ∃ k, prs[j]? = some (k, v) ∧ (mixKind X.prog X.w).is k u = true
  | _, _, .nil => ⟨[], [], .nil, rfl, rfl, fun j u v e => by simp at e⟩
  | _, _, .cons (a := p) (b := kv) h t => by
    obtain ⟨prs, uvs, r, hl, hl2, hp⟩ := pairs_at I t
    obtain ⟨its, rv, ht, _⟩ := I.tuple h
    obtain ⟨u, y, ei, ru, ry⟩ := vals2 rv
    subst ei
    refine ⟨(kv.1, y) :: prs, (u, y) :: uvs, .cons ⟨rfl, ry⟩ r, by rw [List.length_cons, List.length_cons, hl], by rw [List.length_cons, List.length_cons, hl2], fun j u' v' e => ?_⟩
    cases j with
    | zero =>
      have e' : (u, y) = (u', v') := Option.some.inj e
      cases e'
      exact ⟨⟨p, rfl, ht⟩, kv.1, rfl, kV_is (P := X.prog) (w := X.w) ru⟩
    | succ j =>
      obtain ⟨⟨b, e1, e2⟩, k, e3, e4⟩ := hp j u' v' (by simpa using e)
      exact ⟨⟨b, by simpa using e1, e2⟩, k, by simpa using e3, e4⟩
theorem call_dictT (hcalm : X.calm = true) : CallR X (.type "dict") (fun xs H Q => ∃ (a : Addr) (ps : List Addr) (kvs : List (Key × V)), xs = [.ref a] ∧ PtT X.K H a (ps.map V.ref) ∧ Paired (fun p kv => SqT X.K H p [kV kv.1, kv.2]) ps kvs ∧
    ∀ p, H p = none → Q (.ref p) (upd H p (.dK (mergeK [] kvs)))) := by
  intro pins s σ H xs us Q I r q
  obtain ⟨a, ps, kvs, ex, hq, hp, q⟩ := q
  subst ex
  obtain ⟨u, eu, rx⟩ := vals1 r
  subst eu
  cases rx
  obtain ⟨its, rv, pl, hz⟩ := pt_at I hq
  have ei := refs_at rv
  subst ei
  rw [List.length_map] at hz
  obtain ⟨prs, uvs, rel, hl, hl2, hpr⟩ := pairs_at I hp
  have pit : PySem.PairItems s.heap (ps.map Value.ref).toArray (fun j => ps.getD j 0) uvs := by
    refine ⟨by simp [hl2], fun j k v e => ?_⟩
    obtain ⟨⟨b, e1, e2⟩, _⟩ := hpr j k v e
    have eg : ps.getD j 0 = b := by rw [List.getD_eq_getElem?_getD, e1]; rfl
    dsimp only
    rw [eg]
    refine ⟨by simp [e1], .inl ?_⟩
    obtain ⟨o, ho, hc, n, hd⟩ := e2
    exact ⟨o, ho, hc, n, hd⟩
  refine PySem.call_dict_pairs (knd := mixKind X.prog X.w) (kvs := prs) (PySem.PairArg.tuple a (ps.map Value.ref).toArray (fun j => ps.getD j 0) uvs) (I.ok.hd hcalm) ⟨pl, pit⟩ ⟨by rw [hl, hl2], fun i key v hr => ?_⟩ (by rw [hl2]; exact hz) fun h' tk hd' k => ?_
  · obtain ⟨_, kk, e3, e4⟩ := hpr i key v hr
    exact ⟨kk, e3, e4⟩
  · have hm : (s.heap.objs.size == sysModules) = false := beq_eq_false_iff_ne.mpr (Nat.ne_of_gt I.big)
    have hlen : (mergeK [] kvs).length ≤ sizeLine := by
      refine Nat.le_trans (length_mergeK kvs []) ?_
      rw [List.length_nil, Nat.zero_add, rel.length, hl]
      exact hz
    exact ⟨.ref s.heap.objs.size, upd H s.heap.objs.size (.dK (mergeK [] kvs)), I.laid (t' := tk) (fun b o e => k b o (by simp) e) (Nat.le_refl _) (show ObjOk X.prog X.w _ _ _ (.dK (mergeK [] kvs)) from ⟨hlen, hm, merged [] prs, KV.merge rel .nil, hd'⟩), rfl, q _ (I.hok.fresh (Nat.le_refl _))⟩
/-- tuple(l), its object known -/
theorem call_tupleP : CallR X (.type "tuple") (fun xs H Q => ∃ p ys, xs = [.ref p] ∧ SqL X.K H p ys ∧ ∀ l o, H l = none → o.dict = none → Q (.ref l) (upd H l (.frz o (.tup ys)))) := by
  intro pins s σ H xs us Q I r h
  obtain ⟨p, ys, rfl, hq, q⟩ := h
  obtain ⟨u, rfl, rx⟩ := vals1 r
  cases rx
  obtain ⟨its, r', pl, hz⟩ := I.list hq
  have hlen := r'.length
  refine call_tuple_list pl.isList (fun h' kp => ?_) (by simp only [List.size_toArray] <;> omega)
  have I1 : Inv X pins σ H { s with heap := h' } := I.kept (t' := s.toks) kp
  have I2 : Inv X pins σ (upd H h'.objs.size (.frz { cls := .type "tuple", data := .seq its.toArray } (.tup ys))) { s with heap := h'.push { cls := .type "tuple", data := .seq its.toArray } } :=
    I1.laid (t' := s.toks) (fun b o e => Heap.get?_push_of_some _ e) (Nat.le_refl _) (show ObjOk X.prog X.w _ _ _ (.frz _ (.tup ys)) from ⟨Heap.get?_push_size _ rfl, hz, its, r', PyProof.Rows.IsTup.new _ _⟩)
  exact ⟨.ref h'.objs.size, _, I2, rfl, q _ _ (I1.hok.fresh (Nat.le_refl _)) rfl⟩
def tTupP (t : TA) : TE := fun σ H Q => t σ H fun xs H1 => xs.length ≤ sizeLine ∧ ∀ p o, H1 p = none → o.dict = none → Q (.ref p) (upd H1 p (.frz o (.tup xs)))
theorem pe_tupP {es : List Expr} {t : TA} {pos : Pos} {x1} (h : PA X es t) : PE X (.Tuple es x1 pos) (tTupP t) := by
  refine ⟨fun pins s σ H Q I hq => ?_⟩
  refine wpAny_Tuple_spliced (thn (h.run pos pins s σ H _ I hq) fun us s1 ⟨xs, H1, I1, r, z, q⟩ => ⟨by rw [← r.length]; exact z, ?_⟩)
  have hf : H1 s1.heap.objs.size = none := I1.hok.fresh (Nat.le_refl _)
  refine ⟨.ref s1.heap.objs.size, _, I1.laid (t' := s1.toks) (o := .frz { cls := .type "tuple", data := .seq us.toArray } (.tup xs)) (fun b u e => Heap.get?_push_of_some _ e) (Nat.le_refl _) ?_, rfl, q _ _ hf rfl⟩
  exact ⟨Heap.get?_push_size _ rfl, z, us, r, ⟨_, Heap.get?_push_size _ rfl, rfl, _, rfl⟩⟩
end
def bTupleP (ds : List D) (st : Store) : Res D := match ds with
  | [d] => match vw st d with
    | some (true, xs) => .ok (.ptp xs) st
    | _ => .stuck
  | _ => .stuck
def okTupP (ds : List D) (st : Store) : Res D := if ds.length ≤ sizeLine then .ok (.ptp ds) st else .stuck
def mTupP (a : MA) : ME := mCall okTupP a
/-- .. of a tuple of pairs -/
def pairsDT : List D → Option (List (Key × D))
  | [] => some []
  | d :: r => match d.tp with
    | .tup [a, b] => match keyOf a with
      | some q => (pairsDT r).map ((q, b) :: ·)
      | none => none
    | _ => none
def bDictT (ds : List D) (st : Store) : Res D := match ds with
  | [.ptp xs] => match pairsDT xs with
    | some kvs => okDic (mergeD [] kvs) st
    | none => .stuck
  | _ => .stuck
section
variable {G : Gd} {ct : Ct} {k : Nat} {W : St → XK} {m : MA}
theorem db_tupleP : DB G W k (.type "tuple") bTupleP := by
  refine ⟨fun xs H Q => ∃ p ys, xs = [.ref p] ∧ SqL G.K H p ys ∧ ∀ l (o : Obj), H l = none → o.dict = none → Q (.ref l) (upd H l (.frz o (.tup ys))), fun X _ _ hK _ _ => ?_, fun σ w H ds xs st Q r q h => ?_⟩
  · rw [← hK]; exact call_tupleP
  · unfold bTupleP at h
    split at h
    · rename_i d
      obtain ⟨v, rfl, rd⟩ := reps1 r
      split at h
      · rename_i ys hv
        obtain ⟨p, vs, rfl, rr, l1, l2⟩ := vw_rep q rd hv
        exact ⟨p, vs, rfl, l1 rfl, fun l o hl ho => h w _ _ (.node hl) (q.node hl) ⟨l, vs, rfl, .inl ⟨q.new hl, o, upd_same, ho⟩, Reps.mono (.node hl) _ _ rr⟩⟩
      · exact h.elim
    · exact h.elim
theorem de_tupP {es : List Expr} {x1} {pos : Pos} (hr : DA G ct k W es m) : DE G ct k W (.Tuple es x1 pos) (mTupP m) := by
  obtain ⟨u, h3, h4⟩ := hr
  refine ⟨_, fun X h => pe_tupP (h3 X h), fun as H σ env st Q e w h => ?_⟩
  refine h4 as H σ env st _ e w (Post.imp h fun ds st1 as1 H1 xs _ s1 w1 r1 h1 => ?_)
  unfold okTupP at h1
  split at h1
  · rename_i hl
    exact ⟨by rw [← r1.len]; exact hl, fun p o hp ho => h1 as1 _ _ (.node hp) (w1.node hp) ⟨p, xs, rfl, .inl ⟨w1.new hp, o, upd_same, ho⟩, Reps.mono (.node hp) _ _ r1⟩⟩
  · exact h1.elim
theorem pairsDT_rep {T : Tb} {w : Wd} {H : Hp} : ∀ {ds : List D} {vs : List V} {kvs : List (Key × D)}, Reps T w H ds vs → pairsDT ds = some kvs →
    ∃ (ps : List Addr) (ws : List (Key × V)), vs = ps.map V.ref ∧ RepK T w H kvs ws ∧ Paired (fun p kv => SqT T.K H p [kV kv.1, kv.2]) ps ws
  | [], vs, kvs, r, h => by
    rw [show vs = [] from r]
    cases h
    exact ⟨[], [], rfl, rfl, .nil⟩
  | d :: ds, vs, kvs, r, h => by
    obtain ⟨v, q, rfl, r1, r2⟩ := r
    have r1 := r1.tp
    unfold pairsDT at h
    split at h
    · rename_i a b h0
      rw [h0] at r1
      split at h
      · rename_i kk hk
        obtain ⟨kvs2, h2, rfl⟩ := Option.map_eq_some_iff.mp h
        obtain ⟨ps, ws, rfl, i1, i2⟩ := pairsDT_rep r2 h2
        obtain ⟨p, us, rfl, l, ru⟩ := r1
        obtain ⟨u1, u2, rfl, ra, rb⟩ := reps2 ru
        have e1 := key_rep ra hk
        subst e1
        exact ⟨p :: ps, (kk, u2) :: ws, rfl, ⟨u2, ws, rfl, rb, i1⟩, .cons l.sq i2⟩
      · cases h
    · cases h
theorem db_dictT : DB G W k (.type "dict") bDictT := by
  refine ⟨fun xs H Q => ∃ (a : Addr) (ps : List Addr) (kvs : List (Key × V)), xs = [.ref a] ∧ PtT G.K H a (ps.map V.ref) ∧ Paired (fun p kv => SqT G.K H p [kV kv.1, kv.2]) ps kvs ∧ ∀ p, H p = none → Q (.ref p) (upd H p (.dK (mergeK [] kvs))), fun X _ _ hK hc _ => ?_, fun σ w H ds xs st Q r q h => ?_⟩
  · rw [← hK]; exact call_dictT hc
  · unfold bDictT at h
    split at h
    · rename_i zs
      obtain ⟨v, rfl, rd⟩ := reps1 r
      split at h
      · rename_i kvs hz
        obtain ⟨p, vs, rfl, l, rr⟩ := rd
        obtain ⟨ps, ws, rfl, i1, i2⟩ := pairsDT_rep rr hz
        exact ⟨p, ps, ws, rfl, l.pt, i2, post_dic (mergeD_rep (kvs := []) (ws := []) i1 (show RepK G.T w H [] [] from rfl)) q h⟩
      · exact h.elim
    · exact h.elim
end
end DL
end
section
set_option Elab.async false
set_option linter.all false
set_option maxRecDepth 100000
set_option maxHeartbeats 2000000
namespace DL
open PySem L2

/-! ### two rules in one -/
section
variable {G : Gd} {c : Ct} {k : Nat} {W : St → XK}
theorem DB.or {v : Value} {f g : List D → Store → Res D} {own : Store → List D → Bool} (h : DB G W k v f) (h' : DB G W k v g) : DB G W k v (orC own f g) := by
  obtain ⟨r, h1, h2⟩ := h
  obtain ⟨r', h3, h4⟩ := h'
  refine ⟨fun xs H Q => r xs H Q ∨ r' xs H Q, fun X a b c d e => CallR.or (h1 X a b c d e) (h3 X a b c d e), fun σ w H ds xs st Q rd q hp => ?_⟩
  unfold orC at hp
  split at hp
  · exact .inl (h2 σ w H ds xs st Q rd q hp)
  · exact .inr (h4 σ w H ds xs st Q rd q hp)
theorem DOp.or {f : Value → Value → Sem Value} {m1 m2 : D → D → Store → Res D} {own : Store → D → D → Bool} (h : DOp G W f k m1) (h' : DOp G W f k m2) : DOp G W f k (orO own m1 m2) := by
  obtain ⟨r, h1, h2⟩ := h
  obtain ⟨r', h3, h4⟩ := h'
  refine ⟨fun x y H Q => r x y H Q ∨ r' x y H Q, fun X a b c d e => OpR.or (h1 X a b c d e) (h3 X a b c d e), fun σ w H d e x y st Q rd re q hp => ?_⟩
  unfold orO at hp
  split at hp
  · exact .inl (h2 σ w H d e x y st Q rd re q hp)
  · exact .inr (h4 σ w H d e x y st Q rd re q hp)
end

/-! ### in, of things of any depth -/
def pyL : Option PyData → Option (List PyData)
  | some (.list ds) => some ds
  | _ => none
def dInP (neg : Bool) (d e : D) (st : Store) : Res D := match (fz 0 st d).py, pyL (fz 0 st e).py with
  | some p, some ps => if SeqAt.shaped p = true ∧ SeqAt.shaped (.list ps) = true then .ok (.bl (xor neg (ps.any fun z => PyData.eqv z p))) st else .stuck
  | _, _ => .stuck
def isP (st : Store) (d e : D) : Bool := (fz 0 st d).py.isSome && (pyL (fz 0 st e).py).isSome
theorem pyL_eq {o : Option PyData} {ps : List PyData} (h : pyL o = some ps) : o = some (.list ps) := by
  unfold pyL at h
  split at h
  · cases h; rfl
  · cases h
section
variable {G : Gd} {c : Ct} {k : Nat} {W : St → XK}
theorem do_inP : DOp G W (compareOp .In) (k + 1) (dInP false) := by
  refine ⟨rInD G.K, fun X _ _ hK _ hr => by rw [← hK]; exact op_inD (by have := hr.un; omega), fun σ w H d e x y st Q r1 r2 q h => ?_⟩
  unfold dInP at h
  split at h
  · rename_i p ps h1 h2
    split at h
    · rename_i hs
      exact ⟨p, ps, Rep.dp _ _ _ (rep_fz q r1) h1, Rep.dp _ _ _ (rep_fz q r2) (pyL_eq h2), hs.1, hs.2, by
        rw [Bool.false_xor] at h
        exact h w H _ .refl q rfl⟩
    · exact h.elim
  · exact h.elim
theorem do_notinP : DOp G W (compareOp .NotIn) (k + 1) (dInP true) := by
  refine ⟨rNotInD G.K, fun X _ _ hK _ hr => by rw [← hK]; exact op_notInD (by have := hr.un; omega), fun σ w H d e x y st Q r1 r2 q h => ?_⟩
  unfold dInP at h
  split at h
  · rename_i p ps h1 h2
    split at h
    · rename_i hs
      exact ⟨p, ps, Rep.dp _ _ _ (rep_fz q r1) h1, Rep.dp _ _ _ (rep_fz q r2) (pyL_eq h2), hs.1, hs.2, by
        rw [Bool.true_xor] at h
        exact h w H _ .refl q rfl⟩
    · exact h.elim
  · exact h.elim
/-- list * int -/
def dRep (d e : D) (st : Store) : Res D := match vl st d, e with
  | some xs, .int n => if -(2 ^ 63) ≤ n ∧ n < 2 ^ 63 ∧ xs.length * n.toNat ≤ lim then .ok (.lst (List.replicate n.toNat xs).flatten) st else .stuck
  | _, _ => .stuck
theorem reps_rep {T : Tb} {w : Wd} {H : Hp} {ds : List D} {vs : List V} (h : Reps T w H ds vs) : ∀ n : Nat, Reps T w H (List.replicate n ds).flatten (List.replicate n vs).flatten
  | 0 => rfl
  | n + 1 => by
    rw [List.replicate_succ, List.replicate_succ, List.flatten_cons, List.flatten_cons]
    exact reps_app h (reps_rep h n)
theorem do_rep : DOp G W (binaryOp .Mult) k dRep := by
  refine ⟨rRep, fun X _ _ _ _ _ => op_rep, fun σ w H d e x y st Q r1 r2 q h => ?_⟩
  unfold dRep at h
  split at h
  · rename_i xs n hv
    obtain ⟨p, vs, rfl, rr, hp⟩ := vl_rep q r1 hv
    split at h
    · rename_i hc
      obtain ⟨h1, h2, h3⟩ := hc
      have := lim_le
      have el := rr.len
      exact ⟨p, n, vs, rfl, r2, hp, h1, h2, by rw [← el]; omega, fun l hl => h w _ _ (.node hl) (q.node hl) ⟨l, _, rfl, ⟨q.new hl, upd_same⟩, Reps.mono (.node hl) _ _ (reps_rep rr n.toNat)⟩⟩
    · exact h.elim
  · exact h.elim
/-- list * int, int * int -/
def isL (st : Store) (d _ : D) : Bool := (vl st d).isSome
theorem do_mul2 : DOp G W (binaryOp .Mult) k (orO isL dRep dMul) := do_rep.or do_mul
/-- int(text) -/
def bIntS (ds : List D) (st : Store) : Res D := match ds with
  | [.str a] => if a.length ≤ 640 then (match PySem.intText? a with
    | some n => .ok (.int n) st
    | none => .stuck) else .stuck
  | _ => .stuck
theorem db_intS : DB G W k (.type "int") bIntS := by
  refine ⟨fun xs H Q => ∃ a n, xs = [.str a] ∧ PySem.intText? a = some n ∧ a.length ≤ 640 ∧ Q (.int n) H, fun X _ _ _ _ _ => call_int_str, fun σ w H ds xs st Q r q h => ?_⟩
  unfold bIntS at h
  split at h
  · rename_i a
    obtain ⟨v, rfl, rd⟩ := reps1 r
    obtain rfl : v = .str a := rd
    split at h
    · rename_i hl
      split at h
      · rename_i n hn
        exact ⟨a, n, rfl, hn, hl, h w H _ .refl q rfl⟩
      · exact h.elim
    · exact h.elim
  · exact h.elim
def isS1 (_ : Store) (ds : List D) : Bool := match ds with
  | [.str _] => true
  | _ => false
theorem db_int2 : DB G W k (.type "int") (orC isS1 bIntS bInt) := db_intS.or db_int
end

/-! ### f-strings -/
abbrev MJ := Str → DEnv → Store → Res Str
def SimJ (T : Tb) (W : St → XK) (ts : List TE) (m : MJ) : Prop := ∀ as H σ env st acc (Q : Str → Hp → Prop), EnvR T as H env σ → WH T as H st → Post T (fun _ _ a b => a = b) as H (m acc env st) Q (W σ) → tJs ts acc σ H Q
def DJ (G : Gd) (c : Ct) (k : Nat) (W : St → XK) (es : List Expr) (m : MJ) : Prop := ∃ ts, (∀ X, In G c k W X → PJ X es ts) ∧ SimJ G.T W ts m
def mjNil : MJ := fun acc _ st => .ok acc st
def mjCons (a : ME) (r : MJ) : MJ := fun acc env st => (a env st).bind fun d st1 => match d with
  | .str y => if (acc ++ y).length ≤ lim then r (acc ++ y) env st1 else .stuck
  | _ => .stuck
def mJoined (m : MJ) : ME := fun env st => (m Str.empty env st).bind fun y st1 => .ok (.str y) st1
def dFmt (d : D) (st : Store) : Res D := match d with
  | .str y => if y.length ≤ lim then .ok (.str y) st else .stuck
  | .int i => if i.natAbs.log2 < 1920 then .ok (.str (toString i)) st else .stuck
  | _ => .stuck
def dFmtR (d : D) (st : Store) : Res D := match d with
  | .str y => if (reprText y).length ≤ lim then .ok (.str (reprText y)) st else .stuck
  | .int i => if i.natAbs.log2 < 1920 then .ok (.str (toString i)) st else .stuck
  | _ => .stuck
section
variable {G : Gd} {c : Ct} {k : Nat} {W : St → XK} {e e2 : Expr} {es : List Expr} {m : ME} {mj : MJ} {pos : Pos}
theorem de_fmt (h : DE G c k W e m) : DE G c k W (.FormattedValue e (-1) none pos) (mUn dFmt m) := by
  obtain ⟨t, h1, h2⟩ := h
  refine ⟨tFmt t, fun X h => pe_fmt (h1 X h), fun as H σ env st Q e w h => h2 as H σ env st _ e w (Post.imp h fun d st1 w1 H1 x _ s1 q1 r1 h3 => ?_)⟩
  unfold dFmt at h3
  cases d with
  | str y =>
    dsimp only at h3
    split at h3
    · rename_i hl
      exact .inl ⟨y, r1, Nat.le_trans hl lim_le, h3 w1 H1 _ .refl q1 rfl⟩
    · exact h3.elim
  | int i =>
    dsimp only at h3
    split at h3
    · rename_i hl
      exact .inr ⟨i, r1, hl, h3 w1 H1 _ .refl q1 rfl⟩
    · exact h3.elim
  | _ => exact h3.elim
theorem de_fmtR (h : DE G c k W e m) : DE G c k W (.FormattedValue e 114 none pos) (mUn dFmtR m) := by
  obtain ⟨t, h1, h2⟩ := h
  refine ⟨tFmtR t, fun X h => pe_fmtR (h1 X h), fun as H σ env st Q e w h => h2 as H σ env st _ e w (Post.imp h fun d st1 w1 H1 x _ s1 q1 r1 h3 => ?_)⟩
  unfold dFmtR at h3
  cases d with
  | str y =>
    dsimp only at h3
    split at h3
    · rename_i hl
      exact .inl ⟨y, r1, Nat.le_trans hl lim_le, h3 w1 H1 _ .refl q1 rfl⟩
    · exact h3.elim
  | int i =>
    dsimp only at h3
    split at h3
    · rename_i hl
      exact .inr ⟨i, r1, hl, h3 w1 H1 _ .refl q1 rfl⟩
    · exact h3.elim
  | _ => exact h3.elim
theorem dj_nil : DJ G c k W [] mjNil := ⟨[], fun X h => .nil, fun as H σ env st acc Q e w h => h as H acc .refl w rfl⟩
theorem dj_cons (h : DE G c k W e m) (r : DJ G c k W es mj) : DJ G c k W (e :: es) (mjCons m mj) := by
  obtain ⟨t, h1, h2⟩ := h
  obtain ⟨ts, h3, h4⟩ := r
  refine ⟨t :: ts, fun X h => .cons (h1 X h) (h3 X h), fun as H σ env st acc Q en w h => h2 as H σ env st _ en w (Post.imp h fun d st1 w1 H1 x _ s1 q1 r1 h5 => ?_)⟩
  cases d with
  | str y =>
    dsimp only at h5
    split at h5
    · rename_i hl
      exact ⟨y, r1, Nat.le_trans hl lim_le, h4 w1 H1 σ env st1 (acc ++ y) Q (en.mono s1) q1 h5⟩
    · exact h5.elim
  | _ => exact h5.elim
theorem de_joined (h : DJ G c k W (e :: e2 :: es) mj) : DE G c k W (.JoinedStr (e :: e2 :: es) pos) (mJoined mj) := by
  obtain ⟨ts, h1, h2⟩ := h
  refine ⟨fun σ H Q => tJs ts Str.empty σ H fun out H1 => Q (.str out) H1, fun X h => pe_joined (h1 X h), fun as H σ env st Q en w h => h2 as H σ env st Str.empty _ en w (Post.imp h fun y st1 w1 H1 x _ s1 q1 r1 h3 => ?_)⟩
  subst r1
  exact h3 w1 H1 _ .refl q1 rfl
theorem de_joined1 (h : DE G c k W e m) : DE G c k W (.JoinedStr [e] pos) m := by
  obtain ⟨t, h1, h2⟩ := h
  exact ⟨t, fun X h => pe_joined1 (h1 X h), h2⟩
end

/-! ### x.partition(sep), x.split(sep) kept to change, l.index(x) of any depth -/
def dPart (d e : D) (st : Store) : Res D := match d, e with
  | .str a, .str b => if (b.length == 0) = false ∧ a.length ≤ lim then .ok (.tup [.str (Txt.partition a b).1, .str (Txt.partition a b).2.1, .str (Txt.partition a b).2.2]) st else .stuck
  | _, _ => .stuck
def dSplitM (d e : D) (st : Store) : Res D := match d, e with
  | .str a, .str b => if (b.length == 0) = false ∧ a.length + 2 ≤ lim then .ok (.box st.length) (st ++ [.lst ((Txt.split a b).map .str)]) else .stuck
  | _, _ => .stuck
def dIndexP (d : D) (vs : List D) (st : Store) : Res D := match vl st d, vs with
  | some _, [y] => match pyL (fz 0 st d).py, (fz 0 st y).py with
    | some ps, some p => if SeqAt.shaped (.list ps) = true ∧ SeqAt.shaped p = true then (match ps.findIdx? fun z => PyData.eqv z p with
      | some j => .ok (.int j) st
      | none => .stuck) else .stuck
    | _, _ => .stuck
  | _, _ => .stuck
section
variable {G : Gd} {c : Ct} {k : Nat} {W : St → XK} {o e : Expr} {es : List Expr} {mo me : ME} {m : MA} {pos apos cpos : Pos}
theorem de_partition (ho : DE G c k W o mo) (he : DE G c k W e me) (hs : ∀ env, starEach [e] env = [(false, eval e env)] := by intro _; rfl) (hbase : ∀ env, attributeBase o "partition" env (eval o env) = eval o env := by intro _; rfl)
    (hline : (apos.endLine == pos.line) = true := by rfl) : DE G c k W (.Call (.Attribute o "partition" apos) [e] [] pos) (mMethS dPart mo me) := by
  obtain ⟨t, h1, h2⟩ := ho
  obtain ⟨u, h3, h4⟩ := he
  refine ⟨_, fun X h => pe_partition (h1 X h) (h3 X h) (hs _) (hbase _) hline, fun as H σ env st Q e w h => ?_⟩
  refine h2 as H σ env st _ e w (Post.imp h fun d st1 as1 H1 x _ s1 w1 r1 h1 => ?_)
  cases d with
  | str a =>
    refine ⟨⟨a, r1⟩, ?_⟩
    refine h4 as1 H1 σ env st1 _ (e.mono s1) w1 (Post.imp h1 fun d2 st2 as2 H2 y _ s2 w2 r2 h2 => ?_)
    cases d2 with
    | str b =>
      have h3 : Post G.T (Rep G.T) as2 H2 (if (b.length == 0) = false ∧ a.length ≤ lim then .ok (.tup [.str (Txt.partition a b).1, .str (Txt.partition a b).2.1, .str (Txt.partition a b).2.2]) st2 else .stuck) Q (W σ) := h2
      split at h3
      · rename_i hl
        exact ⟨a, b, r1, by rw [show y = _ from r2], hl.1, Nat.le_trans hl.2 lim_le, fun p hp => h3 as2 _ _ (.node hp) (w2.node hp) ⟨p, _, rfl, .inl ⟨w2.new hp, .inl upd_same⟩, _, _, rfl, rfl, _, _, rfl, rfl, _, _, rfl, rfl, rfl⟩⟩
      · exact h3.elim
    | _ => exact h2.elim
  | _ => exact h1.elim
theorem lows_strs : ∀ (n : Nat) (ys : List Str), D.lows n (ys.map .str) = true
  | n, [] => rfl
  | n, y :: ys => by
    show (D.low n (.str y) && D.lows n (ys.map .str)) = true
    rw [lows_strs n ys]; rfl
theorem de_splitM (ho : DE G c k W o mo) (he : DE G c k W e me) (hs : ∀ env, starEach [e] env = [(false, eval e env)] := by intro _; rfl) (hbase : ∀ env, attributeBase o "split" env (eval o env) = eval o env := by intro _; rfl)
    (hline : (apos.endLine == pos.line) = true := by rfl) : DE G c k W (.Call (.Attribute o "split" apos) [e] [] pos) (mMethS dSplitM mo me) := by
  obtain ⟨t, h1, h2⟩ := ho
  obtain ⟨u, h3, h4⟩ := he
  refine ⟨_, fun X h => pe_split (h1 X h) (h3 X h) (hs _) (hbase _) hline, fun as H σ env st Q e w h => ?_⟩
  refine h2 as H σ env st _ e w (Post.imp h fun d st1 as1 H1 x _ s1 w1 r1 h1 => ?_)
  cases d with
  | str a =>
    refine ⟨⟨a, r1⟩, ?_⟩
    refine h4 as1 H1 σ env st1 _ (e.mono s1) w1 (Post.imp h1 fun d2 st2 as2 H2 y _ s2 w2 r2 h2 => ?_)
    cases d2 with
    | str b =>
      have h3 : Post G.T (Rep G.T) as2 H2 (if (b.length == 0) = false ∧ a.length + 2 ≤ lim then .ok (.box st2.length) (st2 ++ [.lst ((Txt.split a b).map .str)]) else .stuck) Q (W σ) := h2
      split at h3
      · rename_i hl
        refine ⟨a, b, r1, by rw [show y = _ from r2], hl.1, Nat.le_trans hl.2 lim_le, fun p hp => h3 (as2.add p) _ _ (.obj hp) (w2.obj hp ⟨_, upd_same, reps_of_strs _⟩ (lows_strs _ _)) ⟨p, rfl, ?_⟩⟩
        show (as2.as ++ [p])[st2.length]? = some p
        rw [← w2.len, List.getElem?_append_right (Nat.le_refl _), Nat.sub_self]
        rfl
      · exact h3.elim
    | _ => exact h2.elim
  | _ => exact h1.elim
theorem sm_indexP {T : Tb} {E : XK} : SimM T E (rIndexD T.K) dIndexP := fun w H d ds x xs st Q r1 r2 q h => by
  unfold dIndexP at h
  split at h
  · rename_i zs y hv
    obtain ⟨p, vs, rfl, rr, hp⟩ := vl_rep q r1 hv
    obtain ⟨v, rfl, rv⟩ := reps1 r2
    split at h
    · rename_i ps pd h1 h2
      split at h
      · rename_i hs
        split at h
        · rename_i j hj
          obtain ⟨hlt, hpj, hno⟩ := List.findIdx?_eq_some_iff_getElem.mp hj
          refine ⟨p, v, pd, ps, j, ps[j], rfl, rfl, Rep.dp _ _ _ (rep_fz q r1) (pyL_eq h1), Rep.dp _ _ _ (rep_fz q rv) h2, hs.1, hs.2, List.getElem?_eq_getElem hlt, hpj, fun m z' hm hz' => ?_, h w H _ .refl q rfl⟩
          obtain ⟨hl2, he⟩ := List.getElem?_eq_some_iff.mp hz'
          have := hno m hm
          rw [he] at this
          simpa using this
        · exact h.elim
      · exact h.elim
    · exact h.elim
  · exact h.elim
theorem de_indexP (hk : 1 ≤ k) (ho : DE G c k W o mo) (ha : DA G c k W (e :: es) m)
    (hbase : ∀ env, attributeBase o "index" env (eval o env) = eval o env := by intro _; rfl)
    (hfew : ∀ env, ((backTo cpos (starEach (e :: es) env)).all (fun x => !x.1) && (backToKw cpos (keywordEach [] env)).all (fun x => x.1.isSome)
      && decide ((e :: es).length + ([] : List Keyword).length + (if ([] : List Keyword).isEmpty then 0 else 1) < 30)) = true := by intro _; rfl)
    (hline : (apos.endLine == cpos.line) = true := by rfl) (hs : ∀ env, starEach (e :: es) env = (false, eval e env) :: starEach es env := by intro _; rfl) (hplain : ∀ env, (backTo cpos (starEach es env)).any (·.1) = false := by intro _; rfl) :
    DE G c k W (.Call (.Attribute o "index" apos) (e :: es) [] cpos) (mMethL dIndexP mo m) := by
  obtain ⟨t, h1, h2⟩ := ho
  obtain ⟨u, h3, h4⟩ := ha
  refine ⟨tBM G.K "list" (rIndexD G.K) t u, fun X h => ?_, sim_methL (fun _ => sm_indexP) h2 h4⟩
  have hu : X.A.units + 65 < cLine := by have := h.room.un; omega
  rw [← h.K]
  exact pe_bm PySem.F.plainAttrs_list PySem.F.slot_list_index PySem.F.type_list_index (mt_indexD hu) (h1 X h) (h3 X h) (hbase _) (hfew _) hline (hs _) (hplain _)
end
end DL
end
section
set_option Elab.async false
set_option linter.all false
set_option maxRecDepth 100000
set_option maxHeartbeats 2000000
namespace DL
open PySem L2

/-! ### o.f += n; a def that is a value called; methods whose last parameters have defaults -/
section
variable {X : Cx} {CX : CXT} {k : Nat} {f C : Addr} {fd : FuncData} {ps : List Str} {sp : Sp} {x m : Str} {p pos apos : Pos} {e o fe : Expr} {es : List Expr} {ta tf : TE} {t : TA}
/-- f(..), f an expression that gives the def at g -/
def tCV (g : Addr) (sp : Sp) (E : St → XK) (tf : TE) (t : TA) : TE := fun σ H Q => tf σ H fun y H1 => y = .ref g ∧ t σ H1 fun vs H2 => sp vs H2 Q (E σ)
theorem pe_cV {E : St → XK} (hf : PE X fe tf) (F : FnOk X.prog X.w X.K X.mg X.base CX k f fd ps sp) (hr : Room k X.A) (hk : PySem.W.keepIn X.K (.ref f) = true) (hb : Binds X.K fd ps []) (hx : ∀ σ, PassesAt CX X σ (E σ))
    (ha : PA X (e :: es) t) (ht : eval (.Call fe (e :: es) [] pos) X.env = (do callWith pos (← eval fe X.env) [] (backTo pos (starEach (e :: es) X.env)) (backToKw pos (keywordEach [] X.env))))
    (he : starEach (e :: es) X.env = (false, eval e X.env) :: starEach es X.env) (hpl : (backTo pos (starEach es X.env)).any (·.1) = false) :
    PE X (.Call fe (e :: es) [] pos) (tCV f sp E tf t) := ⟨fun pins s σ H Q I h => by
  refine PyProof.Rows.Call_ (thn (hf.run pins s σ H _ I h) fun u s1 ⟨y, H1, I1, ry, ey, q⟩ => ?_) ht
  subst ey
  obtain rfl : u = Value.ref f := ry
  exact PySem.W.callWith_K (h₀ := X.base) I1.ok.mod.kin hk (thn (ha.run pos pins s1 σ H1 _ I1 q) fun us s2 ⟨vs, H2, I2, r, q2⟩ => ⟨I2.kIn, wpAny_call (run_code F hr hb (hx σ) I2 r q2)⟩) he hpl⟩
/-- o.m(..) where the last parameters have defaults -/
def tMtD (C : Addr) (m : Str) (sp : Sp) (dvs : List V) (E : St → XK) (ta : TE) (t : TA) : TE := fun σ H Q => ta σ H fun x H1 => ∃ a dx fs, x = .ref a ∧ H1 a = some (.ins C dx fs) ∧ fs.lookup m = none ∧
  t σ H1 fun vs H2 => sp (x :: vs ++ dvs) H2 Q (E σ)
theorem pe_mtD {E : St → XK} {pl : Sem Bool} {ds : List Value} {dvs : List V} (he : PE X o ta) (c : Cls X.K C) (hm : Meth X.K C m f) (F : FnOk X.prog X.w X.K X.mg X.base CX k f fd ps sp) (hr : Room k X.A) (hb : Binds X.K fd ps ds) (hd : Vals dvs ds) (hx : ∀ σ, PassesAt CX X σ (E σ)) (ha : PA X (e :: es) t)
    (hst : starEach (e :: es) X.env = (false, eval e X.env) :: starEach es X.env) (hpl : (backTo pos (starEach es X.env)).any (·.1) = false)
    (ht : eval (.Call (.Attribute o m apos) (e :: es) [] pos) X.env = (do
      let ov ← eval o X.env
      standAt apos.atName
      let (f, first) ← holding [ov] (getMethod ov m pl)
      callWith pos f first (backTo pos (starEach (e :: es) X.env)) (backToKw pos (keywordEach [] X.env)))) :
    PE X (.Call (.Attribute o m apos) (e :: es) [] pos) (tMtD C m sp dvs E ta t) := by
  refine ⟨fun pins s σ H Q I h => PySem.W.methodCall_KW (pl := pl) (thn (he.run pins s σ H _ I h) fun u s1 ⟨x, H1, I1, rx, a, dx, fs, ex, ea, l, q⟩ => ?_) ht⟩
  subst ex
  obtain rfl : u = Value.ref a := rx
  refine getmeth_ok I1 ea c hm l (PySem.W.callWith_K (first := [.ref a]) I1.kIn hm.kp (thn (ha.run pos pins s1 σ H1 _ I1 q) fun us s2 ⟨vs, H2, I2, r, q2⟩ => ⟨I2.kIn, ?_⟩) hst hpl)
  exact run_fnSD (us := .ref a :: us) (vs := .ref a :: vs) (dvs := dvs) F hr hb hd (hx σ) I2 (.cons rfl r) q2
end
/-- a def that may be a value: it stands at the address of number c -/
structure Fv (G : Gd) (c n j : Nat) (m : List D → Store → Res D) : Prop where
  ex : ∃ (fd : FuncData) (ps : List Str), FnOk G.P G.w G.K G.mg G.base (L2N.CX G.P G.w) j (G.C c) fd ps (SpD G.T n m) ∧ PySem.W.keepIn G.K (.ref (G.C c)) = true ∧ Binds G.K fd ps []
structure MtD (G : Gd) (c : Nat) (z : Str) (n j : Nat) (dds : List D) (m : List D → Store → Res D) : Prop where
  ex : ∃ (f : Addr) (fd : FuncData) (ps : List Str) (ds : List Value) (dvs : List V), Meth G.K (G.C c) z f ∧ FnOk G.P G.w G.K G.mg G.base (L2N.CX G.P G.w) j f fd ps (SpD G.T (n + 1) m) ∧ Binds G.K fd ps ds ∧ Vals dvs ds ∧ ∀ w H, Reps G.T w H dds dvs
def mCallV (c : Nat) (m : List D → Store → Res D) (mf : ME) (ma : MA) : ME := fun env st => (mf env st).bind fun d st1 => match d with
  | .cls c2 => if c2 = c then (ma env st1).bind fun ds st2 => m ds st2 else .stuck
  | _ => .stuck
def mMethD (c : Nat) (z : Str) (m : List D → Store → Res D) (dds : List D) (mo : ME) (ma : MA) : ME := fun env st => (mo env st).bind fun d st1 => match fv st1 d with
  | some (c2, fs) => if c2 = c ∧ fs.lookup z = none then (ma env st1).bind fun ds st2 => m (d :: ds ++ dds) st2 else .stuck
  | none => .stuck
def msAugFld (n : Nat) (Na : Nat → Str → Bool) (f : Str) (g : Int → Int → Int) (mo mv : ME) : MS := fun env st => (mo env st).to env fun d st1 => match d, fv st1 d with
  | .box jb, some (cc, fs) => if cc < n ∧ Na cc f = true then (match fs.lookup f with
    | some (.int i) => (mv env st1).to env fun y st2 => match y, st2[jb]? with
      | .int j, some (.ins c3 fs3) => if c3 = cc ∧ fs3.length < 1000 then .fl (.nx env) (st2.set jb (.ins c3 (putFD f (.int (g i j)) fs3))) else .stuck
      | _, _ => .stuck
    | _ => .stuck) else .stuck
  | _, _ => .stuck
section
variable {G : Gd} {ct : Ct} {k j n nw cn c : Nat} {W : St → XK} {m : List D → Store → Res D} {fe e o : Expr} {es : List Expr} {mf mo mv : ME} {ma : MA} {p pos apos tpos : Pos} {x z : Str}
theorem de_callV (F : Fv G c n j m) (hj : j ≤ k) (hf : DE G ct k W fe mf) (ha : DA G ct k W (e :: es) ma) (hl : ArgN ma n)
    (ht : ∀ env, eval (.Call fe (e :: es) [] pos) env = (do callWith pos (← eval fe env) [] (backTo pos (starEach (e :: es) env)) (backToKw pos (keywordEach [] env))) := by intro _; rfl)
    (he : ∀ env, starEach (e :: es) env = (false, eval e env) :: starEach es env := by intro _; rfl) (hpl : ∀ env, (backTo pos (starEach es env)).any (·.1) = false := by intro _; rfl) :
    DE G ct k W (.Call fe (e :: es) [] pos) (mCallV c m mf ma) := by
  obtain ⟨fd, ps, F1, F2, F3⟩ := F.ex
  obtain ⟨t, h1, h2⟩ := hf
  obtain ⟨u, h3, h4⟩ := ha
  refine ⟨tCV (G.C c) (SpD G.T n m) W t u, fun X h => pe_cV (h1 X h) (h.fnOk F1) (h.room.mono hj) (by rw [h.K]; exact F2) (by rw [h.K]; exact F3) (fun σ => L2N.passAt h.tk σ) (h3 X h) (ht _) (he _) (hpl _), fun as H σ env st Q e w h => ?_⟩
  refine h2 as H σ env st _ e w (Post.imp h fun d st1 w1 H1 y _ s1 q1 r1 h1 => ?_)
  cases d with
  | cls c3 =>
    dsimp only at h1
    split at h1
    · rename_i hc
      subst hc
      refine ⟨r1, ?_⟩
      refine h4 w1 H1 σ env st1 _ (e.mono s1) q1 (Post.imp h1 fun ds st2 w2 H2 xs hok s2 q2 r2 h2 => ?_)
      exact ⟨w2, st2, ds, hl.len env st1 ds st2 hok, q2, r2, h2⟩
    · exact h1.elim
  | _ => exact h1.elim
theorem de_methD {J : Nat → Nat → Bool} {dds : List D} (K : Kf G cn J) (hc : c < cn) (F : MtD G c z n j dds m) (hj : j ≤ k) (ho : DE G ct k W o mo) (ha : DA G ct k W (e :: es) ma) (hl : ArgN ma nw) (hn : nw + dds.length = n)
    (hst : ∀ env, starEach (e :: es) env = (false, eval e env) :: starEach es env := by intro _; rfl) (hpl : ∀ env, (backTo pos (starEach es env)).any (·.1) = false := by intro _; rfl) {pl : Env → Sem Bool}
    (ht : ∀ env, eval (.Call (.Attribute o z apos) (e :: es) [] pos) env = (do
      let ov ← eval o env
      standAt apos.atName
      let (f, first) ← holding [ov] (getMethod ov z (pl env))
      callWith pos f first (backTo pos (starEach (e :: es) env)) (backToKw pos (keywordEach [] env))) := by intro _; rfl) :
    DE G ct k W (.Call (.Attribute o z apos) (e :: es) [] pos) (mMethD c z m dds mo ma) := by
  obtain ⟨f, fd, ps, ds0, dvs, M, F1, F2, F3, F4⟩ := F.ex
  obtain ⟨t, h1, h2⟩ := ho
  obtain ⟨u, h3, h4⟩ := ha
  refine ⟨tMtD (G.C c) z (SpD G.T (n + 1) m) dvs W t u, fun X h => pe_mtD (pl := pl X.env) (h1 X h) (by rw [h.K]; exact K.cl c hc) (by rw [h.K]; exact M) (h.fnOk F1) (h.room.mono hj) (by rw [h.K]; exact F2) F3 (fun σ => L2N.passAt h.tk σ) (h3 X h) (hst _) (hpl _) (ht _), fun as H σ env st Q e w h => ?_⟩
  refine h2 as H σ env st _ e w (Post.imp h fun d st1 w1 H1 x _ s1 q1 r1 h2 => ?_)
  split at h2
  · rename_i c2 fs hf
    split at h2
    · rename_i hc
      obtain ⟨a, dx, ws, rfl, e1, rr⟩ := fv_rep q1 r1 hf
      obtain ⟨rfl, hn0⟩ := hc
      refine ⟨a, dx, ws, rfl, e1, repF_none rr hn0, ?_⟩
      refine h4 w1 H1 σ env st1 _ (e.mono s1) q1 (Post.imp h2 fun ds st2 w2 H2 xs hok s2 q2 r2 h3 => ?_)
      exact ⟨w2, st2, d :: ds ++ dds, by rw [List.length_append, List.length_cons, hl.len env st1 ds st2 hok]; omega, q2, reps_appD (F4 w2 H2) (d :: ds) (.ref a :: xs) ⟨.ref a, xs, rfl, Rep.mono s2 _ _ r1, r2⟩, h3⟩
    · exact h2.elim
  · exact h2.elim
theorem ds_augFld {f : Str} {op : Operator} {rd : V → V → Hp → VK → Prop} {g : Int → Int → Int} {J : Nat → Nat → Bool} {Na : Nat → Str → Bool} (F : Kf G cn J) (A : NoA G cn Na) (hop : ∀ X : Cx, InOp X op rd) (hrd : ∀ (i j : Int) (H : Hp) (Q : VK), Q (.int (g i j)) H → rd (.int i) (.int j) H Q)
    (ho : DE G ct k W o mo) (hv : DE G ct k W e mv) : DS G ct k W (.AugAssign (.Attribute o f tpos) op e pos) (msAugFld cn Na f g mo mv) := by
  obtain ⟨t, h1, h2⟩ := ho
  obtain ⟨u, h3, h4⟩ := hv
  refine ⟨sFldAug G.K t u rd f, fun X h => ?_, fun as H σ env st D en w hp => ?_⟩
  · rw [← h.K]
    exact ps_fldaug (h1 X h) (h3 X h) (hop X)
  · refine h2 as H σ env st _ en w (PostS.imp en hp fun d st1 w1 H1 x hz0 s1 q1 r1 h5 => ?_)
    clear hz0
    split at h5
    · rename_i jb cc fs hf
      split at h5
      · rename_i hc
        split at h5
        · rename_i i hl
          obtain ⟨p, dx, ws, rfl, e1, rr⟩ := fv_rep q1 r1 hf
          obtain ⟨v, e2, rv⟩ := repF_get rr hl
          obtain rfl : v = .int i := rv
          refine ⟨p, _, dx, ws, .int i, rfl, e1, F.cl cc hc.1, A.na cc f hc.1 hc.2, e2, ?_⟩
          refine h4 w1 H1 σ env st1 _ (en.mono s1) q1 (PostS.imp (en.mono s1) h5 fun d2 st2 w2 H2 yv hz1 s2 q2 r2 h6 => ?_)
          clear hz1
          split at h6
          · rename_i jj c3 fs3 hz
            split at h6
            · rename_i hcc
              obtain ⟨rfl, hlen⟩ := hcc
              obtain rfl : yv = .int jj := r2
              obtain ⟨a, ea, ha2⟩ := Rep.mono s2 _ _ r1
              cases ea
              obtain ⟨dx3, ws3, e3, rr3⟩ := q2.obs _ p _ ha2 hz
              have hm : p ∈ w2.as := List.mem_iff_getElem?.mpr ⟨_, ha2⟩
              refine hrd i jj H2 _ ⟨dx3, ws3, e3, by rw [← rr3.len]; exact hlen, ?_⟩
              have rput : RepF G.T w2 H2 (putFD f (.int (g i jj)) fs3) (putF f (.int (g i jj)) ws3) := RepF.put (d := .int (g i jj)) rfl rr3
              exact h6 w2 _ σ (.put hm) (q2.put ha2 ⟨dx3, _, upd_same, RepF.mono (.put hm) _ _ rput⟩ (lowF_put rfl (q2.ord _ _ hz))) ((en.mono (s1.trans s2)).mono (.put hm))
            · exact h6.elim
          · exact h6.elim
        · exact h5.elim
      · exact h5.elim
    · exact h5.elim
end
end DL
end
section
set_option Elab.async false
set_option linter.all false
set_option maxRecDepth 100000
set_option maxHeartbeats 2000000
namespace DL
open PySem L2

/-! ### within an except suite: a def called with the caught exception -/
/-- what such a def makes of an exception -/
def mDefX (n : Nat) (b : MX MS) : MX (Store → Res D) := fun cn fs st => match b cn fs (List.replicate n none) st with
  | .fl (.nx _) st' => .ok .non st'
  | .fl (.rt d) st' => .ok d st'
  | _ => .stuck
structure FnX (G : Gd) (k : Nat) (f : Addr) (fd : FuncData) (ps : List Str) (m : MX (Store → Res D)) : Prop where
  len : ps.length = 1
  run : ∀ (A : Around) (outer : List Env) (s : Shared) (H : Hp) (args : Args) (us : List Value) (Q : VK) (a : Addr) (oe : Obj) (cls : Value) (d : Option Addr), L2H.RoomH k A → L2H.Hot1 A (a, oe) → L2H.PinOk outer H s (a, oe) → Env0 G.P G.w G.K G.mg G.base A outer s H →
    BindsTo s fd args (ps.zip us) → Vals [V.ref a] us → L2N.Zn cls d oe → (∃ vs, oe.data = .fields vs) → (∃ w st cn fs, WH G.T w H st ∧ XRep G.T w H cn fs cls d ∧ Post G.T (Rep G.T) w H (m cn fs st) Q E0) →
    codeAny (model G.P G.w) A (.call (.ref f) args) (CR (L2N.CX G.P G.w) outer G.P G.w H s Q eNo) s
section
variable {G : Gd} {name qual : Str} {params : Arguments} {body : List Stmt} {scope : Scope} {f : Addr} {fd : FuncData} {N : List Str} {p0 : Str} {k : Nat} {ms : MX MS}
theorem envr_none {T : Tb} {w : Wd} {H : Hp} {N : List Str} {vs : List V} (h : vs.length ≤ N.length) : EnvR T w H (List.replicate N.length none) (L2.start N vs) := by
  refine ⟨by simp [L2.start]; omega, fun i d e => ?_⟩
  rw [List.getElem?_replicate] at e
  split at e <;> cases e
theorem fn_defX {dV kV doc pm cdv ct oc : Value} {an od : Option Addr} {osl : Array (Option Value)} (lk : G.K.lookup f = some ⟨oc, od, .func (PySem.W.fnOf name qual params body scope dV kV doc pm an cdv ct), osl⟩) (hcd : PySem.W.codeIn G.K cdv qual = true)
    (S : FnScope N [p0] scope) (hb : HSs G (defCt N scope) k 0 body ms) : FnX G (k + 1) f (PySem.W.fnOf name qual params body scope dV kV doc pm an cdv ct) [p0] (mDefX N.length ms) := by
  refine ⟨rfl, fun A outer s H args us Q a oe cls d hr hot hpin e0 hbd r hz hf hsp => ?_⟩
  have KX : G.K.In s.heap := e0.mod.kin.keeps fun b o e => (e0.bs b o e).1
  have lim : s.heap.NoLimit := e0.mod.nolimit.keeps fun b o e => (e0.bs b o e).1
  have hkind : ∀ y ∈ [p0].zip us, scope.names.lookup y.1 = some .local ∨ (scope.names.lookup y.1 = some .cell ∧ ((cellsFrom (s.heap.objs.size + 1) scope.names []).lookup y.1).isSome = true) := fun ⟨n, v⟩ hy => by
    rcases S.par n (List.of_mem_zip hy).1 with q | q
    · exact .inl q
    · exact .inr ⟨q, PySem.W.cellsFrom_some _ _ _ (.inl q)⟩
  refine codeAny_call_function hr.depth (KX _ _ lk) rfl S.co S.gen rfl (PySem.W.codeRec_of KX hcd) (hbd _ _ _ _ ?_)
  refine wpAny_newFunctionEnv_cells S.kind hkind fun env he s1 x => ?_
  subst he
  refine ⟨lim.keeps x.toInCall.keep, codeAny_func ?_⟩
  obtain ⟨t, h1, h2⟩ := hb
  obtain ⟨hA, hv⟩ := hot
  -- the frame as it would be without the exception
  have hd := (hr.deeper (PyProof.Rows.envOfC qual scope s.heap.objs.size f cdv))
  let X0 : Cx := cxOf (L2N.CX G.P G.w) G.P G.w G.K G.mg G.base N qual scope f cdv { A with handled := none } outer s H eNo
  have IN : In G (defCt N scope) k (fun _ => eNo) X0 := ⟨rfl, rfl, rfl, rfl, rfl, rfl, rfl, rfl, rfl, ⟨rfl, hd.dp, hd.un⟩, L2N.takes_of rfl rfl rfl rfl, passes_of rfl, fun _ => ⟨rfl, rfl⟩⟩
  have ht := h1 X0 a oe cls d [] ⟨⟨_, IN⟩, hz, hf⟩
  have I : Inv (L2H.cxH (L2N.CX G.P G.w) G.P G.w G.K G.mg G.base N qual scope f cdv A outer s H eNo (a, oe)) [] (L2.start N [.ref a]) H s1 := L2H.inv_startH S hpin e0 rfl r x
  have eA : (X0.suite a [(a, oe)]).A = A.deeper (PyProof.Rows.envOfC qual scope s.heap.objs.size f cdv) := by
    have e : A = { A with handled := some (.ref a) } := by
      have hA' : A.handled = some (Value.ref a) := hA
      cases A
      simp only at hA'
      subst hA'
      rfl
    conv => rhs; rw [e]
    rfl
  have I2 : Inv (X0.suite a [(a, oe)]) [] (L2.start N [.ref a]) H s1 := by
    refine ⟨⟨I.ok.mod, I.ok.kind, I.ok.glob, I.ok.blt, I.ok.above, I.ok.inj, I.ok.has, I.ok.cab, (fun z => absurd (show false = true from z) Bool.false_ne_true), ?_, I.ok.stk, I.ok.exf, I.ok.bs, I.ok.bsz, I.ok.noex, I.ok.exfs, I.ok.funs, I.ok.frf⟩, I.os, I.bare, I.base, I.loc, I.cell, I.free, I.freeC, I.pin, I.hok, I.len⟩
    rw [eA]
    exact I.ok.frames
  obtain ⟨w0, st0, cn, fs, q0, xr, hp⟩ := hsp
  have hN : 1 ≤ N.length := by
    have := congrArg List.length S.pre
    rw [List.length_take] at this
    simp at this
    omega
  have h0 : (L2.start N [V.ref a])[0]? = some (some (.ref a)) := rfl
  have post := h2 a cls d cn fs w0 H (L2.start N [.ref a]) (List.replicate N.length none) st0 { nx := fun _ H' => Q .non H', rt := Q } (envr_none hN) q0 ⟨h0, xr⟩ (by
    unfold mDefX at hp
    cases c : ms cn fs (List.replicate N.length none) st0 with
    | fl fl1 st1 =>
      rw [c] at hp
      cases fl1 with
      | nx env => exact fun w2 H' σ s2 q2 e2 _ => hp w2 H' .non s2 q2 rfl
      | rt d => exact hp
      | bk env => exact hp.elim
      | ct env => exact hp.elim
    | exc cc fs env st1 => rw [c] at hp; exact hp.elim
    | stuck => rw [c] at hp; exact hp.elim)
  have run := ht.run [] s1 _ H _ I2 post
  rw [eA] at run
  refine wpAny_mono run (fun fl s' hs => ?_) fun e s' hs => hs.elim
  have fin : ∀ {σ' : St} {H' : Hp} {v : V} {u : Value}, Inv (X0.suite a [(a, oe)]) [] σ' H' s' → RelV v u → Q v H' → CE outer G.P G.w H s Q u s' :=
    fun {σ' H' v u} J rv q => ⟨v, H', J.os, J.bare, J.base, J.hok, rv, q⟩
  cases fl with
  | ret u =>
    obtain ⟨v, σ', H', J, rv, q⟩ := hs
    exact fin J rv q
  | next =>
    obtain ⟨σ', H', J, q⟩ := hs
    exact fin (v := V.non) (u := Value.none) J rfl q
  | brk =>
    obtain ⟨_, _, _, q⟩ := hs
    exact False.elim q
  | cont =>
    obtain ⟨_, _, _, q⟩ := hs
    exact False.elim q
end
/-- a def of the module, called with a caught exception -/
structure Fx (G : Gd) (x : Str) (j : Nat) (m : MX (Store → Res D)) : Prop where
  ex : ∃ (f : Addr) (fd : FuncData) (ps : List Str), FnX G j f fd ps m ∧ G.mg x = some (.ref f) ∧ PySem.W.keepIn G.K (.ref f) = true ∧ Binds G.K fd ps []
theorem fx_mk {G : Gd} {x qual : Str} {st : Stmt} {f : Addr} {fd : FuncData} {N : List Str} {p0 : Str} {k : Nat} {ms : MX MS} (F : Fun G.K x qual st f fd) (hm : G.mg x = some (.ref f)) (S : FnScope N [p0] (defScope st))
    (hb : HSs G (defCt N (defScope st)) k 0 (defBody st) ms) (B : Binds G.K fd [p0] []) : Fx G x (k + 1) (mDefX N.length ms) := by
  obtain ⟨oc, od, kV, doc, pm, an, cdv, ct, osl, rfl, lk, hcd⟩ := F.ex
  exact ⟨f, _, [p0], fn_defX lk hcd S hb, hm, F.kp, B⟩
theorem Fx.mono {G : Gd} {x : Str} {j k : Nat} {m : MX (Store → Res D)} (F : Fx G x j m) (h : j ≤ k) : Fx G x k m := by
  obtain ⟨f, fd, ps, ⟨l, r⟩, b, c, d⟩ := F.ex
  exact ⟨f, fd, ps, ⟨l, fun A outer s H args us Q a oe cls dd hr => r A outer s H args us Q a oe cls dd (hr.mono h)⟩, b, c, d⟩
section
variable {G : Gd} {c : Ct} {k j i : Nat} {p p1 pos : Pos} {m : MX (Store → Res D)}
theorem he_callX {x y : Str} (F : Fx G x j m) (hj : j ≤ k) (hg : c.sc.names.lookup x = some .globalImplicit) (hN : c.N[i]? = some y) (hv : Vis c.sc y := by first | exact Or.inl rfl | exact Or.inr (Or.inl rfl) | exact Or.inr (Or.inr rfl)) (hd : (y == ("__debug__" : Str)) = false := by decide)
    (hcd : (y == ("__classdict__" : Str)) = false := by decide) (hdb : (x == ("__debug__" : Str)) = false := by decide) (he : ∀ env, starEach [.Name y p1] env = (false, eval (.Name y p1) env) :: starEach [] env := by intro _; rfl)
    (hpl : ∀ env, (backTo pos (starEach [] env)).any (·.1) = false := by intro _; rfl) : HE G c k i (.Call (.Name x p) [.Name y p1] [] pos) (fun cn fs _ st => m cn fs st) := by
  obtain ⟨f, fd, ps, F1, F2, F3, F4⟩ := F.ex
  refine ⟨fun a cls d σ H Q => σ[i]? = some (some (.ref a)) ∧ ∃ w st cn fs, WH G.T w H st ∧ XRep G.T w H cn fs cls d ∧ Post G.T (Rep G.T) w H (m cn fs st) Q E0, fun X a oe cls d pn h => ⟨fun pins s σ H Q I q => ?_⟩, fun a cls d cn fs w H σ env st Q e q hv h => ⟨hv.sl, w, st, cn, fs, q, hv.x, h⟩⟩
  obtain ⟨hs, q⟩ := q
  obtain ⟨W, IN⟩ := h.inn
  have hx : PE (X.suite a ((a, oe) :: pn)) (.Name y p1) (tVar i) := pe_var (by show X.N[i]? = _; rw [h.N]; exact hN) (by show Vis X.env.scope y; rw [h.sc]; exact hv) hd hcd
  have ha : PA (X.suite a ((a, oe) :: pn)) [.Name y p1] (tCons (tVar i) tNil) := pa_cons hx pa_nil (he _)
  refine wpAny_Call_Name_kw (ld_glob (X := X.suite a ((a, oe) :: pn)) I (h.gl hg) (by show X.mg x = _; rw [h.mg]; exact F2) ?_ hdb)
  refine PySem.W.callWith_K (h₀ := X.base) I.ok.mod.kin (by rw [h.K]; exact F3) (thn (ha.run pos pins s σ H (fun vs H1 => vs = [.ref a] ∧ H1 = H) I ⟨.ref a, hs, rfl, rfl⟩) fun us s1 ⟨vs, H1, I1, r, ev, eH⟩ => ⟨I1.kIn, ?_⟩) (he _) (hpl _)
  subst ev
  rw [eH] at I1
  have hl : us.length = ps.length := by rw [F1.len, ← r.length]; rfl
  have b : BindsTo s1 fd ⟨us, []⟩ (ps.zip us) := by
    have z := F4 s1 us (by rw [← h.K]; exact I1.kIn) (by rw [List.append_nil]; exact hl)
    rw [List.append_nil] at z
    exact z
  obtain ⟨there, free, nl, nofs, nocell⟩ := I1.pin (a, oe) (List.mem_append_left _ List.mem_cons_self)
  have hpin : L2H.PinOk X.stack H s1 (a, oe) := ⟨there, free, fun hm => (List.mem_cons.mp (I1.stkSub a hm)).elim nl nofs, nocell⟩
  obtain ⟨vs0, hvs⟩ := h.fl
  have hot : L2H.Hot1 (X.suite a ((a, oe) :: pn)).A (a, oe) := ⟨rfl, vs0, hvs, h.zn.2.2 vs0 hvs⟩
  have room : L2H.RoomH j (X.suite a ((a, oe) :: pn)).A := L2H.RoomH.mono ⟨IN.room.dp, IN.room.un⟩ hj
  have e0 : Env0 G.P G.w G.K G.mg G.base (X.suite a ((a, oe) :: pn)).A X.stack s1 H := by
    have z := I1.env0
    rw [show (X.suite a ((a, oe) :: pn)).prog = G.P from IN.prog, show (X.suite a ((a, oe) :: pn)).w = G.w from IN.wd, show (X.suite a ((a, oe) :: pn)).K = G.K from IN.K, show (X.suite a ((a, oe) :: pn)).mg = G.mg from IN.mg, show (X.suite a ((a, oe) :: pn)).base = G.base from IN.base] at z
    exact z
  have run := F1.run _ X.stack s1 H ⟨us, []⟩ us Q a oe cls d room hot hpin e0 b r h.zn ⟨vs0, hvs⟩ q
  rw [← IN.prog, ← IN.wd] at run
  refine wpAny_call (codeAny_mono run fun r s' hq => ?_)
  cases r with
  | error e => exact (cx_no hq).elim
  | ok fl =>
    cases fl with
    | ret u => exact I1.after hq
    | next => exact False.elim hq
    | brk => exact False.elim hq
    | cont => exact False.elim hq
end
end DL
end
section
set_option Elab.async false
set_option linter.all false
set_option maxRecDepth 100000
set_option maxHeartbeats 2000000
namespace DL
open PySem L2

/-! ### one sign in a text -/
def dInS (neg : Bool) (d e : D) (st : Store) : Res D := match d, e with
  | .str ⟨x⟩, .str z => match x.toList with
    | [c] => .ok (.bl (xor neg (decide (c ∈ z.cps.toList)))) st
    | _ => .stuck
  | _, _ => .stuck
def isS2 (_ : Store) (d e : D) : Bool := match d, e with
  | .str _, .str _ => true
  | _, _ => false
section
variable {G : Gd} {c : Ct} {k : Nat} {W : St → XK}
theorem do_inS : DOp G W (compareOp .In) k (dInS false) := by
  refine ⟨rInS, fun X _ _ _ _ _ => op_inS, fun σ w H d e x y st Q r1 r2 q h => ?_⟩
  unfold dInS at h
  split at h
  · rename_i xs z
    split at h
    · rename_i cc hx
      have ex : xs = #[cc] := by rw [← Array.toArray_toList (xs := xs), hx]
      subst ex
      rw [Bool.false_xor] at h
      exact ⟨cc, z, r1, r2, h w H _ .refl q rfl⟩
    · exact h.elim
  · exact h.elim
theorem do_notinS : DOp G W (compareOp .NotIn) k (dInS true) := by
  refine ⟨rNotInS, fun X _ _ _ _ _ => op_notInS, fun σ w H d e x y st Q r1 r2 q h => ?_⟩
  unfold dInS at h
  split at h
  · rename_i xs z
    split at h
    · rename_i cc hx
      have ex : xs = #[cc] := by rw [← Array.toArray_toList (xs := xs), hx]
      subst ex
      rw [Bool.true_xor] at h
      exact ⟨cc, z, r1, r2, h w H _ .refl q rfl⟩
    · exact h.elim
  · exact h.elim
theorem do_inSD : DOp G W (compareOp .In) k (orO isS2 (dInS false) (dDIn false)) := do_inS.or do_inD
theorem do_notinSD : DOp G W (compareOp .NotIn) k (orO isS2 (dInS true) (dDIn true)) := do_notinS.or do_notinD
end

/-! ### (a, b, ..) = a tuple or a list -/
def gvAny (n : Nat) (g : MGs) : MG := fun d env st => match vw st d with
  | some (_, ds) => if ds.length = n then g ds env st else none
  | none => none
def gAny (K : PySem.W.Frag) (n : Nat) (t : TGs) : TG := fun v σ H Q => gTup K n t v σ H Q ∨ gUnl K n t v σ H Q
theorem gm_any {K : PySem.W.Frag} {n : Nat} {gs : TGs} (b : GMonos gs) : GMono (gAny K n gs) := ⟨fun v σ H Q Q' h q => by
  rcases q with q | ⟨a, xs, e, h1, h2, q⟩
  · exact .inl ((gm_tup b).mono _ _ _ _ _ h q)
  · exact .inr ⟨a, xs, e, h1, h2, b.mono _ _ _ _ _ h q⟩⟩
theorem foot_any {K : PySem.W.Frag} {n : Nat} {gs : TGs} {vs : List Nat} (b : Foots gs vs) : Foot (gAny K n gs) vs := fun v σ H Q q => by
  rcases q with q | ⟨a, xs, e, h1, h2, q⟩
  · exact .inl (foot_tup b v σ H Q q)
  · exact .inr ⟨a, xs, e, h1, h2, b xs σ H Q q⟩
theorem simg_any {T : Tb} {n : Nat} {gs : TGs} {mgs : MGs} (h1 : SimGs T gs mgs) : SimG T (gAny T.K n gs) (gvAny n mgs) := fun as H σ env st d v Q e w r h => by
  unfold gvAny at h
  cases hv : vw st d with
  | none => rw [hv] at h; exact h.elim
  | some p =>
    obtain ⟨b, ds⟩ := p
    rw [hv] at h
    dsimp only at h
    obtain ⟨a, vs, rfl, rr, l1, l2⟩ := vw_rep w r hv
    by_cases hl : ds.length = n
    · rw [if_pos hl] at h
      have q := h1 as H σ env st ds vs Q e w rr h
      have hl2 : vs.length = n := by rw [← rr.len]; exact hl
      cases b with
      | true => exact .inr ⟨a, vs, rfl, l1 rfl, hl2, q⟩
      | false => exact .inl ⟨a, vs, rfl, l2 rfl, hl2, q⟩
    · rw [if_neg hl] at h; exact h.elim
section
variable {G : Gd} {c : Ct} {k : Nat} {W : St → XK} {pos : Pos}
theorem dg_any {es : List Expr} {j n : Nat} {vs : List Nat} {mgs : MGs} (h2 : DGs G c k W es vs mgs) (hn : ∀ env, (assignEach es env).length = n := by intro _; rfl) (hst : ∀ env, (assignEach es env).findIdx? (·.1) = none := by intro _; rfl) : DG G c k W (.Tuple es j pos) vs (gvAny n mgs) := by
  obtain ⟨u, b1, b2, b3, b4⟩ := h2
  refine ⟨gAny G.K n u, fun X h => ⟨fun pins s σ H v w Q I r q => ?_⟩, simg_any b2, gm_any b3, foot_any b4⟩
  rw [← h.K] at q
  rcases q with q | q
  · exact (pg_tup (pos := pos) (k := j) h.calm (b1 X h) (hn _) (hst _)).run pins s σ H v w Q I r q
  · exact (pg_unl (pos := pos) (k := j) h.calm (b1 X h) (hn _) (hst _)).run pins s σ H v w Q I r q
end
end DL
end
section
set_option Elab.async false
set_option linter.all false
set_option maxRecDepth 100000
set_option maxHeartbeats 4000000
namespace Law
open PySem L2 DL
def top (i : Nat) : Stmt := PySem.Challenge.pw_keptacross_k07_work_lines.main.body.getD i (.Pass ⟨0, 0, 0, 0⟩)
def memOf : Stmt → List Stmt
  | .ClassDef _ _ _ body _ _ _ _ _ _ _ => body
  | _ => []
def mem (i j : Nat) : Stmt := (memOf (top i)).getD j (.Pass ⟨0, 0, 0, 0⟩)
def nC : Nat := 1
/-- the own classes with the exceptions -/
def NX : Nat := 5
def jC : Nat → Nat → Bool := fun a b => a == b
/-- an exception class below another one -/
def sX : Nat → Nat → Bool := fun a b => ([(1, 1), (2, 1), (2, 2), (3, 1), (3, 3), (4, 1), (4, 4)] : List (Nat × Nat)).contains (a, b)
/-- the fields of exceptions -/
def lX : List Str := ["line", "word"]
/-- what instances hold -/
def atC : List Str := ["line", "lines", "place", "words"]
def naC : Nat → Str → Bool := fun _ f => atC.contains f
/-- what is built in stays so; own classes stand where they do -/
structure Bx (G : Gd) : Prop where
  ValueError_ : G.mg "ValueError" = none
  abs_ : G.mg "abs" = none
  all_ : G.mg "all" = none
  bool_ : G.mg "bool" = none
  int_ : G.mg "int" = none
  isinstance_ : G.mg "isinstance" = none
  len_ : G.mg "len" = none
  list_ : G.mg "list" = none
  range_ : G.mg "range" = none
  str_ : G.mg "str" = none
  sum_ : G.mg "sum" = none
  tuple_ : G.mg "tuple" = none
  c_AcrossError : G.mg "AcrossError" = some (.ref (G.C 1))
  c_BadLine : G.mg "BadLine" = some (.ref (G.C 3))
  c_BadReading : G.mg "BadReading" = some (.ref (G.C 2))
  c_BadWork : G.mg "BadWork" = some (.ref (G.C 4))
  c_is_pick_text : G.mg "is_pick_text" = some (.ref (G.C 5))
/-! LineReader.__init__ -/
abbrev s_LineReader_init : Stmt := (mem 6 0)
abbrev N_LineReader_init : List Str := ["self", "lines"]
theorem sc_LineReader_init : FnScope N_LineReader_init ["self", "lines"] (defScope s_LineReader_init) := ⟨rfl, rfl, rfl, by decide +kernel, rfl, by decide +kernel, by decide +kernel⟩
def b_LineReader_init : MS := (msSeq (msSetFld nC naC ("lines" : Str) (mCall bTuple (mCons (mVar 1) mNil)) (mVar 0)) (msSeq (msSetFld nC naC ("line" : Str) (mUn dNeg (mC (.int 1))) (mVar 0)) (msSeq (msSetFld nC naC ("words" : Str) (mTup mNil) (mVar 0)) (msSetFld nC naC ("place" : Str) (mC (.int 0)) (mVar 0)))))
def m_LineReader_init : List D → Store → Res D := mDef 2 b_LineReader_init
/-! write_reading -/
abbrev s_write_reading : Stmt := (top 11)
abbrev N_write_reading : List Str := ["reading", "word", "pick"]
theorem sc_write_reading : FnScope N_write_reading ["reading"] (defScope s_write_reading) := ⟨rfl, rfl, rfl, by decide +kernel, rfl, by decide +kernel, by decide +kernel⟩
def b_write_reading : MS := (msRet (mMethS dJoin (mC (.str (" " : Str))) (mOp dAdd (mLst (mCons (mC (.str ("read" : Str))) mNil)) (mLc (mAny (mVar 0)) (gvAny 2 (gvCons (gvName 1) (gvCons (gvName 2) gvNil))) mYes (mIf (mTest (mOp dEq (mVar 2) (mC (.int 0)))) (mVar 1) (mJoined (mjCons (mUn dFmt (mVar 1)) (mjCons (mC (.str (":" : Str))) (mjCons (mUn dFmt (mVar 2)) mjNil))))) [1, 2]))))
def m_write_reading : List D → Store → Res D := mDef 3 b_write_reading
/-! pick_of -/
abbrev s_pick_of : Stmt := (top 14)
abbrev N_pick_of : List Str := ["text", "word", "colon", "pick"]
theorem sc_pick_of : FnScope N_pick_of ["text"] (defScope s_pick_of) := ⟨rfl, rfl, rfl, by decide +kernel, rfl, by decide +kernel, by decide +kernel⟩
def b_pick_of : MS := (msSeq (msAsg (mMethS dPart (mVar 0) (mC (.str (":" : Str)))) (gvAny 3 (gvCons (gvName 1) (gvCons (gvName 2) (gvCons (gvName 3) gvNil))))) (msRet (mTup (mCons (mVar 1) (mCons (mIf (mTest (mOp dEq (mVar 2) (mC (.str ("" : Str))))) (mC (.int 0)) (mCall (orC isS1 bIntS bInt) (mCons (mVar 3) mNil))) mNil)))))
def m_pick_of : List D → Store → Res D := mDef 4 b_pick_of
/-! _law_source -/
abbrev s_law_source : Stmt := (top 19)
abbrev N_law_source : List Str := ["_law_script", "_law_salt"]
theorem sc_law_source : FnScope N_law_source ["_law_script", "_law_salt"] (defScope s_law_source) := ⟨rfl, rfl, rfl, by decide +kernel, rfl, by decide +kernel, by decide +kernel⟩
def b_law_source : MS := (msRet (mLstM (mCons (mVar 0) (mCons (mVar 1) (mCons (mC (.int 0)) (mCons (mC (.int 0)) (mCons (mC (.int 0)) mNil)))))))
def m_law_source : List D → Store → Res D := mDefB 2 b_law_source
/-! _law_next -/
abbrev s_law_next : Stmt := (top 20)
abbrev N_law_next : List Str := ["_law_source_here", "_law_script", "_law_k", "_law_cell"]
theorem sc_law_next : FnScope N_law_next ["_law_source_here"] (defScope s_law_next) := ⟨rfl, rfl, rfl, by decide +kernel, rfl, by decide +kernel, by decide +kernel⟩
def b_law_next : MS := (msSeq (msSet 1 (mOp dIx (mVar 0) (mC (.int 0)))) (msSeq (msSet 2 (mOp dIx (mVar 0) (mC (.int 1)))) (msSeq (msSet 3 (mIf (mTest (mOp dLt (mVar 2) (mCall bLen (mCons (mVar 1) mNil)))) (mOp dIx (mVar 1) (mVar 2)) (mOp dMod (mCall bInt (mCons (mOp dAdd (mCall bSum (mCons (mSl (mVar 1) mPn (mPs (mC (.int 1)))) mNil)) (mOp dMul (mC (.int 31)) (mVar 2))) mNil)) (mC (.int 1000003))))) (msSeq (msSetIx (mOp dAdd (mVar 2) (mC (.int 1))) (mVar 0) (mC (.int 1))) (msSeq (msSetIx (mIf (mTest (mOp dGe (mCall bAbs (mCons (mVar 3) mNil)) (mOp dPow (mC (.int 10)) (mC (.int 18))))) (mOp dAdd (mCall bAbs (mCons (mVar 3) mNil)) (mCall bInt (mCons (mOp dLt (mVar 3) (mC (.int 0))) mNil))) (mC (.int 0))) (mVar 0) (mC (.int 2))) (msSeq (msSetIx (mOp dAdd (mOp dMod (mCall bInt (mCons (mVar 3) mNil)) (mC (.int 2147483629))) (mOp dMul (mC (.int 17)) (mOp dIx (mVar 0) (mC (.int 1))))) (mVar 0) (mC (.int 3))) (msSetIx (mC (.int 0)) (mVar 0) (mC (.int 4)))))))))
def m_law_next : List D → Store → Res D := mDef 4 b_law_next
/-! _law_pick -/
abbrev s_law_pick : Stmt := (top 21)
abbrev N_law_pick : List Str := ["_law_source_here", "_law_many", "_law_low", "_law_high", "_law_last", "_law_told"]
theorem sc_law_pick : FnScope N_law_pick ["_law_source_here", "_law_many"] (defScope s_law_pick) := ⟨rfl, rfl, rfl, by decide +kernel, rfl, by decide +kernel, by decide +kernel⟩
def b_law_pick : MS := (msSeq (msIf (mTest (mOp dGt (mOp dIx (mVar 0) (mC (.int 2))) (mC (.int 0)))) (msSeq (msSet 5 (mOp dMod (mCall bInt (mCons (mOp dIx (mVar 0) (mC (.int 2))) mNil)) (mVar 1))) (msSeq (msSetIx (mOp dFdiv (mOp dIx (mVar 0) (mC (.int 2))) (mVar 1)) (mVar 0) (mC (.int 2))) (msRet (mVar 5)))) msNext) (msSeq (msSetIx (mOp dAdd (mOp dIx (mVar 0) (mC (.int 4))) (mC (.int 1))) (mVar 0) (mC (.int 4))) (msSeq (msSet 2 (mOp dMod (mCall bInt (mCons (mOp dAdd (mOp dAdd (mOp dMul (mOp dIx (mVar 0) (mC (.int 3))) (mC (.int 48271))) (mOp dMul (mOp dIx (mVar 0) (mC (.int 4))) (mC (.int 1234577)))) (mC (.int 7))) mNil)) (mC (.int 2147483647)))) (msSeq (msSet 3 (mOp dMod (mCall bInt (mCons (mOp dAdd (mOp dMul (mVar 2) (mVar 2)) (mOp dMul (mC (.int 16807)) (mOp dIx (mVar 0) (mC (.int 4))))) mNil)) (mC (.int 2147483399)))) (msSeq (msSet 4 (mOp dMod (mCall bInt (mCons (mOp dMul (mVar 3) (mVar 3)) mNil)) (mC (.int 2147483029)))) (msRet (mOp dMod (mCall bInt (mCons (mOp dAdd (mOp dFdiv (mVar 4) (mC (.int 11))) (mOp dFdiv (mVar 2) (mC (.int 7)))) mNil)) (mVar 1))))))))
def m_law_pick : List D → Store → Res D := mDef 6 b_law_pick
/-! _law_letter -/
abbrev s_law_letter : Stmt := (top 24)
abbrev N_law_letter : List Str := ["_law_k"]
theorem sc_law_letter : FnScope N_law_letter ["_law_k"] (defScope s_law_letter) := ⟨rfl, rfl, rfl, by decide +kernel, rfl, by decide +kernel, by decide +kernel⟩
def b_law_letter : MS := (msRet (mOp dIx (mC (.str ("abcdefghijklmnopqrstuvwxyz" : Str))) (mOp dMod (mCall bInt (mCons (mVar 0) mNil)) (mC (.int 26)))))
def m_law_letter : List D → Store → Res D := mDef 1 b_law_letter
/-! _law_is_word -/
abbrev s_law_is_word : Stmt := (top 29)
abbrev N_law_is_word : List Str := ["_law_text", "_law_letter_here"]
theorem sc_law_is_word : FnScope N_law_is_word ["_law_text"] (defScope s_law_is_word) := ⟨rfl, rfl, rfl, by decide +kernel, rfl, by decide +kernel, by decide +kernel⟩
def b_law_is_word : MS := (msRet (mAndV (mChain dLe dLe (mC (.int 1)) (mCall bLen (mCons (mVar 0) mNil)) (mC (.int 8))) (mCall bAll (mCons (mLc (mAny (mVar 0)) (gvName 1) mYes (mOp (orO isS2 (dInS false) (dDIn false)) (mVar 1) (mC (.str ("abcdefghijklmnopqrstuvwxyz" : Str)))) [1]) mNil))))
def m_law_is_word : List D → Store → Res D := mDef 2 b_law_is_word
/-! _law_reading_line -/
abbrev s_law_reading_line : Stmt := (top 30)
abbrev N_law_reading_line : List Str := ["_law_reading", "_law_pair"]
theorem sc_law_reading_line : FnScope N_law_reading_line ["_law_reading"] (defScope s_law_reading_line) := ⟨rfl, rfl, rfl, by decide +kernel, rfl, by decide +kernel, by decide +kernel⟩
def b_law_reading_line : MS := (msRet (mMethS dJoin (mC (.str (" " : Str))) (mOp dAdd (mLst (mCons (mC (.str ("read" : Str))) mNil)) (mLc (mAny (mVar 0)) (gvName 1) mYes (mOp dAdd (mOp dIx (mVar 1) (mC (.int 0))) (mOp dIx (mLst (mCons (mC (.str ("" : Str))) (mCons (mC (.str (":1" : Str))) (mCons (mC (.str (":2" : Str))) mNil)))) (mOp dIx (mVar 1) (mC (.int 1))))) [1]))))
def m_law_reading_line : List D → Store → Res D := mDef 2 b_law_reading_line
/-! _law_error -/
abbrev s_law_error : Stmt := (top 33)
abbrev N_law_error : List Str := ["_law_raised"]
theorem sc_law_error : FnScope N_law_error ["_law_raised"] (defScope s_law_error) := ⟨rfl, rfl, rfl, by decide +kernel, rfl, by decide +kernel, by decide +kernel⟩
def b_law_error : MX MS := fun cn fs => (msSeq (msIf (mOr (mNot (mTest (mXis nC NX sX 3 cn fs))) (mNot (mTest (mXisV nC NX cn fs)))) (msRet (mTup (mCons (mC (.str ("other" : Str))) mNil))) msNext) (msSeq (msIf (mOr (mTest (mXis nC NX sX 4 cn fs)) (mTest (mXis nC NX sX 2 cn fs))) (msRet (mTup (mCons (mC (.str ("other" : Str))) mNil))) msNext) (msRet (mTup (mCons (mC (.str ("BadLine" : Str))) (mCons (mXf nC NX lX ("line" : Str) cn fs) (mCons (mXf nC NX lX ("word" : Str) cn fs) mNil)))))))
def m_law_error : MX (Store → Res D) := mDefX 1 b_law_error
/-! is_word -/
abbrev s_is_word : Stmt := (top 8)
abbrev N_is_word : List Str := ["thing", "sign"]
theorem sc_is_word : FnScope N_is_word ["thing"] (defScope s_is_word) := ⟨rfl, rfl, rfl, by decide +kernel, rfl, by decide +kernel, by decide +kernel⟩
def b_is_word : MS := (msSeq (msIf (mOr (mNot (mTest (mIsi1 nC jC (mVar 0) (mC (.ty "str"))))) (mNot (mTest (mChain dLe dLe (mC (.int 1)) (mCall bLen (mCons (mVar 0) mNil)) (mC (.int 8)))))) (msRet (mC (.bl false))) msNext) (msRet (mCall bAll (mCons (mLc (mAny (mVar 0)) (gvName 1) mYes (mChain dLe dLe (mC (.str ("a" : Str))) (mVar 1) (mC (.str ("z" : Str)))) [1]) mNil))))
def m_is_word : List D → Store → Res D := mDef 2 b_is_word
/-! write_work -/
abbrev s_write_work : Stmt := (top 12)
abbrev N_write_work : List Str := ["chapters", "chapter"]
theorem sc_write_work : FnScope N_write_work ["chapters"] (defScope s_write_work) := ⟨rfl, rfl, rfl, by decide +kernel, rfl, by decide +kernel, by decide +kernel⟩
def b_write_work : MS := (msRet (mCall bTuple (mCons (mLc (mAny (mVar 0)) (gvName 1) mYes (mCall m_write_reading (mCons (mVar 1) mNil)) [1]) mNil)))
def m_write_work : List D → Store → Res D := mDef 2 b_write_work
/-! is_pick_text -/
abbrev s_is_pick_text : Stmt := (top 13)
abbrev N_is_pick_text : List Str := ["text", "word", "colon", "pick"]
theorem sc_is_pick_text : FnScope N_is_pick_text ["text"] (defScope s_is_pick_text) := ⟨rfl, rfl, rfl, by decide +kernel, rfl, by decide +kernel, by decide +kernel⟩
def b_is_pick_text : MS := (msSeq (msAsg (mMethS dPart (mVar 0) (mC (.str (":" : Str)))) (gvAny 3 (gvCons (gvName 1) (gvCons (gvName 2) (gvCons (gvName 3) gvNil))))) (msRet (mAndV (mCall m_is_word (mCons (mVar 1) mNil)) (mOrV (mOp dEq (mVar 2) (mC (.str ("" : Str)))) (mOp (dDIn false) (mVar 3) (mTup (mCons (mC (.str ("1" : Str))) (mCons (mC (.str ("2" : Str))) mNil))))))))
def m_is_pick_text : List D → Store → Res D := mDef 4 b_is_pick_text
/-! _law_one_in -/
abbrev s_law_one_in : Stmt := (top 22)
abbrev N_law_one_in : List Str := ["_law_source_here", "_law_many"]
theorem sc_law_one_in : FnScope N_law_one_in ["_law_source_here", "_law_many"] (defScope s_law_one_in) := ⟨rfl, rfl, rfl, by decide +kernel, rfl, by decide +kernel, by decide +kernel⟩
def b_law_one_in : MS := (msRet (mOp dEq (mCall m_law_pick (mCons (mVar 0) (mCons (mVar 1) mNil))) (mC (.int 0))))
def m_law_one_in : List D → Store → Res D := mDef 2 b_law_one_in
/-! _law_one_of -/
abbrev s_law_one_of : Stmt := (top 23)
abbrev N_law_one_of : List Str := ["_law_source_here", "_law_row"]
theorem sc_law_one_of : FnScope N_law_one_of ["_law_source_here", "_law_row"] (defScope s_law_one_of) := ⟨rfl, rfl, rfl, by decide +kernel, rfl, by decide +kernel, by decide +kernel⟩
def b_law_one_of : MS := (msRet (mOp dIx (mVar 1) (mCall m_law_pick (mCons (mVar 0) (mCons (mCall bLen (mCons (mVar 1) mNil)) mNil)))))
def m_law_one_of : List D → Store → Res D := mDef 2 b_law_one_of
/-! _law_word -/
abbrev s_law_word : Stmt := (top 25)
abbrev N_law_word : List Str := ["_law_source_here", "_law_longest", "_law_size", "_law_k"]
theorem sc_law_word : FnScope N_law_word ["_law_source_here", "_law_longest"] (defScope s_law_word) := ⟨rfl, rfl, rfl, by decide +kernel, rfl, by decide +kernel, by decide +kernel⟩
def b_law_word : MS := (msSeq (msSet 2 (mOp dAdd (mC (.int 1)) (mCall m_law_pick (mCons (mVar 0) (mCons (mVar 1) mNil))))) (msRet (mMethS dJoin (mC (.str ("" : Str))) (mLc (mRng1 (mCons (mVar 2) mNil)) (gvName 3) mYes (mCall m_law_letter (mCons (mCall m_law_pick (mCons (mVar 0) (mCons (mC (.int 26)) mNil))) mNil)) [3]))))
def m_law_word : List D → Store → Res D := mDef 4 b_law_word
/-! _law_pair_of -/
abbrev s_law_pair_of : Stmt := (top 31)
abbrev N_law_pair_of : List Str := ["_law_text", "_law_parts"]
theorem sc_law_pair_of : FnScope N_law_pair_of ["_law_text"] (defScope s_law_pair_of) := ⟨rfl, rfl, rfl, by decide +kernel, rfl, by decide +kernel, by decide +kernel⟩
def b_law_pair_of : MS := (msSeq (msSet 1 (mMethS dSplit (mVar 0) (mC (.str (":" : Str))))) (msSeq (msIf (mOr (mTest (mOp dGt (mCall bLen (mCons (mVar 1) mNil)) (mC (.int 2)))) (mNot (mTest (mCall m_law_is_word (mCons (mOp dIx (mVar 1) (mC (.int 0))) mNil))))) (msRet (mC .non)) msNext) (msSeq (msIf (mTest (mOp dEq (mCall bLen (mCons (mVar 1) mNil)) (mC (.int 1)))) (msRet (mTup (mCons (mVar 0) (mCons (mC (.int 0)) mNil)))) msNext) (msRet (mIf (mTest (mOp (dDIn false) (mOp dIx (mVar 1) (mC (.int 1))) (mTup (mCons (mC (.str ("1" : Str))) (mCons (mC (.str ("2" : Str))) mNil))))) (mTup (mCons (mOp dIx (mVar 1) (mC (.int 0))) (mCons (mMethL dIndex (mLst (mCons (mC (.str ("0" : Str))) (mCons (mC (.str ("1" : Str))) (mCons (mC (.str ("2" : Str))) mNil)))) (mCons (mOp dIx (mVar 1) (mC (.int 1))) mNil)) mNil))) (mC .non))))))
def m_law_pair_of : List D → Store → Res D := mDef 2 b_law_pair_of
/-! LineReader.head -/
abbrev s_LineReader_head : Stmt := (mem 6 1)
abbrev N_LineReader_head : List Str := ["self", "coming"]
theorem sc_LineReader_head : FnScope N_LineReader_head ["self"] (defScope s_LineReader_head) := ⟨rfl, rfl, rfl, by decide +kernel, rfl, by decide +kernel, by decide +kernel⟩
def b_LineReader_head : MS := (msSeq (msSet 1 (mOp dAdd (mUn (dFld nC naC ("line" : Str)) (mVar 0)) (mC (.int 1)))) (msSeq (msIf (mTest (mOp dEq (mVar 1) (mCall bLen (mCons (mUn (dFld nC naC ("lines" : Str)) (mVar 0)) mNil)))) (msRet (mC .non)) msNext) (msSeq (msIf (mNot (mTest (mIsi1 nC jC (mOp dIx (mUn (dFld nC naC ("lines" : Str)) (mVar 0)) (mVar 1)) (mC (.ty "str"))))) (msRaise 3 ["line", "word"] (mCons (mVar 1) (mCons (mC (.int 0)) mNil))) msNext) (msRet (mOp dIx (mMethS dSplit (mOp dIx (mUn (dFld nC naC ("lines" : Str)) (mVar 0)) (mVar 1)) (mC (.str (" " : Str)))) (mC (.int 0)))))))
def m_LineReader_head : List D → Store → Res D := mDef 2 b_LineReader_head
/-! LineReader.one -/
abbrev s_LineReader_one : Stmt := (mem 6 3)
abbrev N_LineReader_one : List Str := ["self", "good"]
theorem sc_LineReader_one : FnScope N_LineReader_one ["self", "good"] (defScope s_LineReader_one) := ⟨rfl, rfl, rfl, by decide +kernel, rfl, by decide +kernel, by decide +kernel⟩
def b_LineReader_one : MS := (msSeq (msIf (mOr (mTest (mOp dEq (mUn (dFld nC naC ("place" : Str)) (mVar 0)) (mCall bLen (mCons (mUn (dFld nC naC ("words" : Str)) (mVar 0)) mNil)))) (mNot (mTest (mCallV 5 m_is_pick_text (mVar 1) (mCons (mOp dIx (mUn (dFld nC naC ("words" : Str)) (mVar 0)) (mUn (dFld nC naC ("place" : Str)) (mVar 0))) mNil))))) (msRaise 3 ["line", "word"] (mCons (mUn (dFld nC naC ("line" : Str)) (mVar 0)) (mCons (mUn (dFld nC naC ("place" : Str)) (mVar 0)) mNil))) msNext) (msSeq (msAugFld nC naC ("place" : Str) (fun i j => i + j) (mVar 0) (mC (.int 1))) (msRet (mOp dIx (mUn (dFld nC naC ("words" : Str)) (mVar 0)) (mOp dSub (mUn (dFld nC naC ("place" : Str)) (mVar 0)) (mC (.int 1)))))))
def m_LineReader_one : List D → Store → Res D := mDef 2 b_LineReader_one
/-! LineReader.shut -/
abbrev s_LineReader_shut : Stmt := (mem 6 5)
abbrev N_LineReader_shut : List Str := ["self"]
theorem sc_LineReader_shut : FnScope N_LineReader_shut ["self"] (defScope s_LineReader_shut) := ⟨rfl, rfl, rfl, by decide +kernel, rfl, by decide +kernel, by decide +kernel⟩
def b_LineReader_shut : MS := (msIf (mTest (mOp dLt (mUn (dFld nC naC ("place" : Str)) (mVar 0)) (mCall bLen (mCons (mUn (dFld nC naC ("words" : Str)) (mVar 0)) mNil)))) (msRaise 3 ["line", "word"] (mCons (mUn (dFld nC naC ("line" : Str)) (mVar 0)) (mCons (mUn (dFld nC naC ("place" : Str)) (mVar 0)) mNil))) msNext)
def m_LineReader_shut : List D → Store → Res D := mDef 1 b_LineReader_shut
/-! _law_words -/
abbrev s_law_words : Stmt := (top 26)
abbrev N_law_words : List Str := ["_law_source_here", "_law_many", "_law_longest", "_law_spent", "_law_words_here", "_law_k", "_law_word_here", "_law_many_more", "_law_row", "_law_j", "_law_one"]
theorem sc_law_words : FnScope N_law_words ["_law_source_here", "_law_many", "_law_longest", "_law_spent"] (defScope s_law_words) := ⟨rfl, rfl, rfl, by decide +kernel, rfl, by decide +kernel, by decide +kernel⟩
def b_law_words : MS := (msSeq (msSet 4 (mLstM mNil)) (msSeq (msFor (mRng1 (mCons (mVar 1) mNil)) (gvName 5) (msSeq (msSet 6 (mCall m_law_word (mCons (mVar 0) (mCons (mVar 2) mNil)))) (msSeq (msSet 7 (mOp dAdd (mOp dAdd (mCall bLen (mCons (mVar 3) mNil)) (mCall bLen (mCons (mVar 4) mNil))) (mC (.int 1)))) (msSeq (msSet 8 (mOp dAdd (mLst (mCons (mVar 6) mNil)) (mLc (mRng1 (mCons (mVar 7) mNil)) (gvName 9) mYes (mOp dAdd (mOp dAdd (mSl (mVar 6) mPn (mPs (mOp dSub (mVar 2) (mC (.int 1))))) (mCall m_law_letter (mCons (mOp dFdiv (mVar 9) (mC (.int 26))) mNil))) (mCall m_law_letter (mCons (mVar 9) mNil))) [9]))) (msDrop (mMethL dAppend (mVar 4) (mCons (mOp dIx (mLc (mAny (mVar 8)) (gvName 10) (mAnd (mTest (mOp (dDIn true) (mVar 10) (mVar 3))) (mTest (mOp (dDIn true) (mVar 10) (mVar 4)))) (mVar 10) [10]) (mC (.int 0))) mNil))))))) (msRet (mVar 4))))
def m_law_words : List D → Store → Res D := mDef 11 b_law_words
/-! _law_read -/
abbrev s_law_read : Stmt := (top 32)
abbrev N_law_read : List Str := ["_law_lines", "_law_rows", "_law_k", "_law_row", "_law_pairs", "_law_word_here"]
theorem sc_law_read : FnScope N_law_read ["_law_lines"] (defScope s_law_read) := ⟨rfl, rfl, rfl, by decide +kernel, rfl, by decide +kernel, by decide +kernel⟩
def b_law_read : MS := (msSeq (msIf (mTest (mOp dEq (mCall bLen (mCons (mVar 0) mNil)) (mC (.int 0)))) (msRet (mTup (mCons (mC (.str ("BadLine" : Str))) (mCons (mC (.int 0)) (mCons (mC (.int 0)) mNil))))) msNext) (msSeq (msSet 1 (mLstM mNil)) (msSeq (msFor (mRng1 (mCons (mCall bLen (mCons (mVar 0) mNil)) mNil)) (gvName 2) (msSeq (msIf (mOr (mTest (mOp dEq (mVar 2) (mC (.int 6)))) (mNot (mTest (mIsi1 nC jC (mOp dIx (mVar 0) (mVar 2)) (mC (.ty "str")))))) (msRet (mTup (mCons (mC (.str ("BadLine" : Str))) (mCons (mVar 2) (mCons (mC (.int 0)) mNil))))) msNext) (msSeq (msSet 3 (mMethS dSplit (mOp dIx (mVar 0) (mVar 2)) (mC (.str (" " : Str))))) (msSeq (msIf (mTest (mOp dNe (mOp dIx (mVar 3) (mC (.int 0))) (mC (.str ("read" : Str))))) (msRet (mTup (mCons (mC (.str ("BadLine" : Str))) (mCons (mVar 2) (mCons (mC (.int 0)) mNil))))) msNext) (msSeq (msSet 4 (mLc (mAny (mSl (mVar 3) (mPs (mC (.int 1))) mPn)) (gvName 5) mYes (mCall m_law_pair_of (mCons (mVar 5) mNil)) [5])) (msSeq (msIf (mTest (mOp (dInP false) (mC .non) (mVar 4))) (msRet (mTup (mCons (mC (.str ("BadLine" : Str))) (mCons (mVar 2) (mCons (mOp dAdd (mC (.int 1)) (mMethL dIndexP (mVar 4) (mCons (mC .non) mNil))) mNil))))) msNext) (msDrop (mMethL dAppend (mVar 1) (mCons (mCall bTuple (mCons (mVar 4) mNil)) mNil))))))))) (msRet (mTup (mCons (mC (.str ("told" : Str))) (mCons (mCall bTuple (mCons (mVar 1) mNil)) mNil)))))))
def m_law_read : List D → Store → Res D := mDef 6 b_law_read
/-! _law_wide_reading -/
abbrev s_law_wide_reading : Stmt := (top 36)
abbrev N_law_wide_reading : List Str := ["_law_source_here", "_law_pool", "_law_many", "_law_k"]
theorem sc_law_wide_reading : FnScope N_law_wide_reading ["_law_source_here", "_law_pool"] (defScope s_law_wide_reading) := ⟨rfl, rfl, rfl, by decide +kernel, rfl, by decide +kernel, by decide +kernel⟩
def b_law_wide_reading : MS := (msSeq (msDrop (mCall m_law_next (mCons (mVar 0) mNil))) (msSeq (msSet 2 (mCall m_law_pick (mCons (mVar 0) (mCons (mC (.int 9)) mNil)))) (msSeq (msIf (mTest (mCall m_law_one_in (mCons (mVar 0) (mCons (mC (.int 12)) mNil)))) (msSet 2 (mOp dAdd (mC (.int 58)) (mCall m_law_pick (mCons (mVar 0) (mCons (mC (.int 43)) mNil))))) msNext) (msRet (mCall bTuple (mCons (mLc (mRng1 (mCons (mVar 2) mNil)) (gvName 3) mYes (mTup (mCons (mCall m_law_one_of (mCons (mVar 0) (mCons (mVar 1) mNil))) (mCons (mCall m_law_pick (mCons (mVar 0) (mCons (mC (.int 3)) mNil))) mNil))) [3]) mNil))))))
def m_law_wide_reading : List D → Store → Res D := mDef 4 b_law_wide_reading
/-! _law_bent_line -/
abbrev s_law_bent_line : Stmt := (top 37)
abbrev N_law_bent_line : List Str := ["_law_source_here", "_law_line", "_law_row", "_law_k", "_law_odd", "_law_word_here", "_law_way"]
theorem sc_law_bent_line : FnScope N_law_bent_line ["_law_source_here", "_law_line"] (defScope s_law_bent_line) := ⟨rfl, rfl, rfl, by decide +kernel, rfl, by decide +kernel, by decide +kernel⟩
def b_law_bent_line : MS := (msSeq (msSet 2 (mMethS dSplitM (mVar 1) (mC (.str (" " : Str))))) (msSeq (msSet 3 (mCall m_law_pick (mCons (mVar 0) (mCons (mOp dAdd (mCall bLen (mCons (mVar 2) mNil)) (mC (.int 1))) mNil)))) (msSeq (msIf (mAnd (mTest (mOp dGt (mCall bLen (mCons (mVar 2) mNil)) (mC (.int 9)))) (mTest (mCall m_law_one_in (mCons (mVar 0) (mCons (mC (.int 2)) mNil))))) (msSet 3 (mOp dSub (mCall bLen (mCons (mVar 2) mNil)) (mCall m_law_pick (mCons (mVar 0) (mCons (mC (.int 3)) mNil))))) msNext) (msSeq (msSet 4 (mLst (mCons (mC (.str ("" : Str))) (mCons (mC (.str ("a:0" : Str))) (mCons (mC (.str ("a:3" : Str))) (mCons (mC (.str ("a:01" : Str))) (mCons (mC (.str ("a:" : Str))) (mCons (mC (.str (":1" : Str))) (mCons (mC (.str ("a:1:2" : Str))) (mCons (mC (.str ("a:b" : Str))) (mCons (mC (.str ("a:+1" : Str))) (mCons (mC (.str ("A" : Str))) (mCons (mC (.str ("a1" : Str))) (mCons (mC (.str ("abcdefghi" : Str))) mNil)))))))))))))) (msSeq (msSet 4 (mOp dAdd (mVar 4) (mLst (mCons (mC (.str ("abcdefgh:2" : Str))) (mCons (mC (.str ("abcdefghi:1" : Str))) (mCons (mC (.str ("*a" : Str))) (mCons (mC (.str ("_" : Str))) (mCons (mC (.str ("read" : Str))) (mCons (mC (.str ("read:1" : Str))) (mCons (mC (.str ("a:12" : Str))) (mCons (mC (.str ("1" : Str))) (mCons (mC (.str (":" : Str))) (mCons (mC (.str ("a::1" : Str))) mNil))))))))))))) (msSeq (msSet 5 (mCall m_law_one_of (mCons (mVar 0) (mCons (mVar 4) mNil)))) (msSeq (msSet 6 (mCall m_law_pick (mCons (mVar 0) (mCons (mC (.int 5)) mNil)))) (msSeq (msIf (mTest (mOp dEq (mVar 6) (mC (.int 0)))) (msDrop (mMethL dInsert (mVar 2) (mCons (mVar 3) (mCons (mVar 5) mNil)))) (msIf (mTest (mOp dEq (mVar 6) (mC (.int 1)))) (msSet 2 (mOp dAdd (mSl (mVar 2) mPn (mPs (mVar 3))) (mSl (mVar 2) (mPs (mOp dAdd (mVar 3) (mC (.int 1)))) mPn))) (msIf (mTest (mOp dEq (mVar 6) (mC (.int 2)))) (msSet 2 (mOp dAdd (mVar 2) (mLstM (mCons (mVar 5) mNil)))) (msSet 2 (mOp dAdd (mOp dAdd (mSl (mVar 2) mPn (mPs (mVar 3))) (mLstM (mCons (mVar 5) mNil))) (mSl (mVar 2) (mPs (mOp dAdd (mVar 3) (mC (.int 1)))) mPn)))))) (msRet (mMethS dJoin (mC (.str (" " : Str))) (mVar 2)))))))))))
def m_law_bent_line : List D → Store → Res D := mDef 7 b_law_bent_line
/-! LineReader.take -/
abbrev s_LineReader_take : Stmt := (mem 6 2)
abbrev N_LineReader_take : List Str := ["self", "name"]
theorem sc_LineReader_take : FnScope N_LineReader_take ["self", "name"] (defScope s_LineReader_take) := ⟨rfl, rfl, rfl, by decide +kernel, rfl, by decide +kernel, by decide +kernel⟩
def b_LineReader_take : MS := (msSeq (msIf (mTest (mOp dNe (mMeth 0 ("head" : Str) m_LineReader_head (mVar 0) mNil) (mVar 1))) (msRaise 3 ["line", "word"] (mCons (mOp dAdd (mUn (dFld nC naC ("line" : Str)) (mVar 0)) (mC (.int 1))) (mCons (mC (.int 0)) mNil))) msNext) (msSeq (msAugFld nC naC ("line" : Str) (fun i j => i + j) (mVar 0) (mC (.int 1))) (msSeq (msSetFld nC naC ("words" : Str) (mMethS dSplit (mOp dIx (mUn (dFld nC naC ("lines" : Str)) (mVar 0)) (mUn (dFld nC naC ("line" : Str)) (mVar 0))) (mC (.str (" " : Str)))) (mVar 0)) (msSetFld nC naC ("place" : Str) (mC (.int 1)) (mVar 0)))))
def m_LineReader_take : List D → Store → Res D := mDef 2 b_LineReader_take
/-! LineReader.rest -/
abbrev s_LineReader_rest : Stmt := (mem 6 4)
abbrev N_LineReader_rest : List Str := ["self", "good", "least", "most", "found"]
theorem sc_LineReader_rest : FnScope N_LineReader_rest ["self", "good", "least", "most"] (defScope s_LineReader_rest) := ⟨rfl, rfl, rfl, by decide +kernel, rfl, by decide +kernel, by decide +kernel⟩
def b_LineReader_rest : MS := (msSeq (msSet 4 (mLstM mNil)) (msSeq (msWhile (mAnd (mTest (mOp dLt (mUn (dFld nC naC ("place" : Str)) (mVar 0)) (mCall bLen (mCons (mUn (dFld nC naC ("words" : Str)) (mVar 0)) mNil)))) (mTest (mOp dNe (mCall bLen (mCons (mVar 4) mNil)) (mVar 3)))) (msDrop (mMethL dAppend (mVar 4) (mCons (mMeth 0 ("one" : Str) m_LineReader_one (mVar 0) (mCons (mVar 1) mNil)) mNil)))) (msSeq (msIf (mTest (mOp dLt (mCall bLen (mCons (mVar 4) mNil)) (mVar 2))) (msRaise 3 ["line", "word"] (mCons (mUn (dFld nC naC ("line" : Str)) (mVar 0)) (mCons (mUn (dFld nC naC ("place" : Str)) (mVar 0)) mNil))) msNext) (msSeq (msDrop (mMeth 0 ("shut" : Str) m_LineReader_shut (mVar 0) mNil)) (msRet (mCall bTuple (mCons (mVar 4) mNil)))))))
def m_LineReader_rest : List D → Store → Res D := mDef 5 b_LineReader_rest
/-! LineReader.past -/
abbrev s_LineReader_past : Stmt := (mem 6 6)
abbrev N_LineReader_past : List Str := ["self"]
theorem sc_LineReader_past : FnScope N_LineReader_past ["self"] (defScope s_LineReader_past) := ⟨rfl, rfl, rfl, by decide +kernel, rfl, by decide +kernel, by decide +kernel⟩
def b_LineReader_past : MS := (msIf (mTest (mNotN (mMeth 0 ("head" : Str) m_LineReader_head (mVar 0) mNil))) (msRaise 3 ["line", "word"] (mCons (mOp dAdd (mUn (dFld nC naC ("line" : Str)) (mVar 0)) (mC (.int 1))) (mCons (mC (.int 0)) mNil))) msNext)
def m_LineReader_past : List D → Store → Res D := mDef 1 b_LineReader_past
/-! _law_bent_lines -/
abbrev s_law_bent_lines : Stmt := (top 38)
abbrev N_law_bent_lines : List Str := ["_law_source_here", "_law_lines", "_law_at", "_law_way", "_law_odd"]
theorem sc_law_bent_lines : FnScope N_law_bent_lines ["_law_source_here", "_law_lines"] (defScope s_law_bent_lines) := ⟨rfl, rfl, rfl, by decide +kernel, rfl, by decide +kernel, by decide +kernel⟩
def b_law_bent_lines : MS := (msSeq (msSet 2 (mCall m_law_pick (mCons (mVar 0) (mCons (mOp dAdd (mCall bLen (mCons (mVar 1) mNil)) (mC (.int 1))) mNil)))) (msSeq (msSet 3 (mCall m_law_pick (mCons (mVar 0) (mCons (mC (.int 8)) mNil)))) (msSeq (msIf (mTest (mOp dEq (mVar 3) (mC (.int 0)))) (msSeq (msSet 4 (mLst (mCons (mC (.str ("" : Str))) (mCons (mC (.str (" " : Str))) (mCons (mC (.str ("read" : Str))) (mCons (mC (.str ("read " : Str))) (mCons (mC (.str (" read" : Str))) (mCons (mC (.str ("reads a" : Str))) (mCons (mC (.str ("Read a" : Str))) (mCons (mC (.str ("read a" : Str))) (mCons (mC (.str ("read a:1" : Str))) (mCons (mC (.str ("a" : Str))) mNil)))))))))))) (msSeq (msSet 4 (mOp dAdd (mOp dAdd (mVar 4) (mLst (mCons (mC .non) (mCons (mC (.int 0)) (mCons (mC (.bl true)) (mCons (mTup (mCons (mC (.str ("read" : Str))) (mCons (mC (.str ("a" : Str))) mNil))) (mCons (mLst (mCons (mC (.str ("read" : Str))) mNil)) mNil))))))) (mVar 1))) (msRet (mOp dAdd (mOp dAdd (mSl (mVar 1) mPn (mPs (mVar 2))) (mLst (mCons (mCall m_law_one_of (mCons (mVar 0) (mCons (mVar 4) mNil))) mNil))) (mSl (mVar 1) (mPs (mVar 2)) mPn))))) msNext) (msSeq (msIf (mTest (mOp dEq (mVar 3) (mC (.int 1)))) (msRet (mOp dAdd (mSl (mVar 1) mPn (mPs (mVar 2))) (mSl (mVar 1) (mPs (mOp dAdd (mVar 2) (mC (.int 1)))) mPn))) msNext) (msSeq (msIf (mTest (mOp dEq (mVar 3) (mC (.int 2)))) (msRet (mSl (mOp dAdd (mVar 1) (mOp (orO isL dRep dMul) (mLst (mCons (mC (.str ("read" : Str))) mNil)) (mC (.int 7)))) mPn (mPs (mC (.int 7))))) msNext) (msSeq (msIf (mTest (mOp dEq (mVar 3) (mC (.int 3)))) (msRet (mSl (mVar 1) mPn (mPs (mVar 2)))) msNext) (msSeq (msIf (mOr (mTest (mOp dEq (mVar 2) (mCall bLen (mCons (mVar 1) mNil)))) (mNot (mTest (mIsi1 nC jC (mOp dIx (mVar 1) (mVar 2)) (mC (.ty "str")))))) (msRet (mVar 1)) msNext) (msRet (mOp dAdd (mOp dAdd (mSl (mVar 1) mPn (mPs (mVar 2))) (mLst (mCons (mCall m_law_bent_line (mCons (mVar 0) (mCons (mOp dIx (mVar 1) (mVar 2)) mNil))) mNil))) (mSl (mVar 1) (mPs (mOp dAdd (mVar 2) (mC (.int 1)))) mPn))))))))))
def m_law_bent_lines : List D → Store → Res D := mDef 5 b_law_bent_lines
/-! read_chapter -/
abbrev s_read_chapter : Stmt := (top 15)
abbrev N_read_chapter : List Str := ["reader", "text"]
theorem sc_read_chapter : FnScope N_read_chapter ["reader"] (defScope s_read_chapter) := ⟨rfl, rfl, rfl, by decide +kernel, rfl, by decide +kernel, by decide +kernel⟩
def b_read_chapter : MS := (msSeq (msDrop (mMeth 0 ("take" : Str) m_LineReader_take (mVar 0) (mCons (mC (.str ("read" : Str))) mNil))) (msRet (mCall bTuple (mCons (mLc (mAny (mMethD 0 ("rest" : Str) m_LineReader_rest [.non] (mVar 0) (mCons (mC (.cls 5)) (mCons (mC (.int 0)) mNil)))) (gvName 1) mYes (mCall m_pick_of (mCons (mVar 1) mNil)) [1]) mNil))))
def m_read_chapter : List D → Store → Res D := mDef 2 b_read_chapter
/-! read_reading -/
abbrev s_read_reading : Stmt := (top 16)
abbrev N_read_reading : List Str := ["line"]
theorem sc_read_reading : FnScope N_read_reading ["line"] (defScope s_read_reading) := ⟨rfl, rfl, rfl, by decide +kernel, rfl, by decide +kernel, by decide +kernel⟩
def b_read_reading : MS := (msRet (mCall m_read_chapter (mCons (mCall (dMake 0 m_LineReader_init) (mCons (mTup (mCons (mVar 0) mNil)) mNil)) mNil)))
def m_read_reading : List D → Store → Res D := mDef 1 b_read_reading
/-! read_work -/
abbrev s_read_work : Stmt := (top 17)
abbrev N_read_work : List Str := ["lines", "reader", "chapters"]
theorem sc_read_work : FnScope N_read_work ["lines"] (defScope s_read_work) := ⟨rfl, rfl, rfl, by decide +kernel, rfl, by decide +kernel, by decide +kernel⟩
def b_read_work : MS := (msSeq (msSet 1 (mCall (dMake 0 m_LineReader_init) (mCons (mVar 0) mNil))) (msSeq (msSet 2 (mLstM (mCons (mCall m_read_chapter (mCons (mVar 1) mNil)) mNil))) (msSeq (msWhile (mAnd (mTest (mOp dLt (mCall bLen (mCons (mVar 2) mNil)) (mC (.int 6)))) (mTest (mNotN (mMeth 0 ("head" : Str) m_LineReader_head (mVar 1) mNil)))) (msDrop (mMethL dAppend (mVar 2) (mCons (mCall m_read_chapter (mCons (mVar 1) mNil)) mNil)))) (msSeq (msDrop (mMeth 0 ("past" : Str) m_LineReader_past (mVar 1) mNil)) (msRet (mCall bTuple (mCons (mVar 2) mNil)))))))
def m_read_work : List D → Store → Res D := mDef 3 b_read_work
/-! _law_lists -/
abbrev s_law_lists : Stmt := (top 27)
abbrev N_law_lists : List Str := ["_law_thing", "_law_part"]
theorem sc_law_lists : FnScope N_law_lists ["_law_thing"] (defScope s_law_lists) := ⟨rfl, rfl, rfl, by decide +kernel, rfl, by decide +kernel, by decide +kernel⟩
def b_law_lists (rec : List D → Store → Res D) : MS := (msRet (mIf (mTest (mIsi1 nC jC (mVar 0) (mC (.ty "tuple")))) (mLc (mAny (mVar 0)) (gvName 1) mYes (mCall rec (mCons (mVar 1) mNil)) [1]) (mVar 0)))
def m_law_lists : Nat → List D → Store → Res D := mRec 2 b_law_lists
/-! _law_same -/
abbrev s_law_same : Stmt := (top 28)
abbrev N_law_same : List Str := ["_law_actual", "_law_due", "_law_k"]
theorem sc_law_same : FnScope N_law_same ["_law_actual", "_law_due"] (defScope s_law_same) := ⟨rfl, rfl, rfl, by decide +kernel, rfl, by decide +kernel, by decide +kernel⟩
def b_law_same (rec : List D → Store → Res D) : MS := (msSeq (msIf (mTest (mIsN (mVar 1))) (msRet (mIsN (mVar 0))) msNext) (msSeq (msIf (mTest (mIsi1 nC jC (mVar 1) (mC (.ty "bool")))) (msRet (mAndV (mIsi1 nC jC (mVar 0) (mC (.ty "bool"))) (mOp dEq (mVar 0) (mVar 1)))) msNext) (msSeq (msIf (mTest (mIsi1 nC jC (mVar 1) (mC (.ty "tuple")))) (msSeq (msIf (mOr (mNot (mTest (mIsi1 nC jC (mVar 0) (mC (.ty "tuple"))))) (mTest (mOp dNe (mCall bLen (mCons (mVar 0) mNil)) (mCall bLen (mCons (mVar 1) mNil))))) (msRet (mC (.bl false))) msNext) (msRet (mCall bAll (mCons (mLc (mRng1 (mCons (mCall bLen (mCons (mVar 1) mNil)) mNil)) (gvName 2) mYes (mCall rec (mCons (mOp dIx (mVar 0) (mVar 2)) (mCons (mOp dIx (mVar 1) (mVar 2)) mNil))) [2]) mNil)))) msNext) (msSeq (msIf (mTest (mIsi1 nC jC (mVar 1) (mC (.ty "int")))) (msRet (mAndV (mIsi1 nC jC (mVar 0) (mC (.ty "int"))) (mAndV (mNotV (mIsi1 nC jC (mVar 0) (mC (.ty "bool")))) (mOp dEq (mVar 0) (mVar 1))))) msNext) (msRet (mAndV (mIsi1 nC jC (mVar 0) (mC (.ty "str"))) (mOp dEq (mVar 0) (mVar 1))))))))
def m_law_same : Nat → List D → Store → Res D := mRec 3 b_law_same
/-! _law_asked_work -/
abbrev s_law_asked_work : Stmt := (top 34)
abbrev N_law_asked_work : List Str := ["_law_lines", "_law_due", "_law_raised", "_law_told"]
theorem sc_law_asked_work : FnScope N_law_asked_work ["_law_lines", "_law_due"] (defScope s_law_asked_work) := ⟨rfl, rfl, rfl, by decide +kernel, rfl, by decide +kernel, by decide +kernel⟩
def b_law_asked_work : MS := (msSeq (msTry nC NX sX 1 2 (msSet 3 (mTup (mCons (mC (.str ("told" : Str))) (mCons (mCall m_read_work (mCons (mVar 0) mNil)) mNil)))) (fun cn fs => (msSet 3 (fun _ st => m_law_error cn fs st)))) (msRet (mCall (m_law_same 20) (mCons (mVar 3) (mCons (mVar 1) mNil)))))
def m_law_asked_work : List D → Store → Res D := mDef 4 b_law_asked_work
/-! _law_asked_line -/
abbrev s_law_asked_line : Stmt := (top 35)
abbrev N_law_asked_line : List Str := ["_law_line", "_law_due", "_law_raised", "_law_told"]
theorem sc_law_asked_line : FnScope N_law_asked_line ["_law_line"] (defScope s_law_asked_line) := ⟨rfl, rfl, rfl, by decide +kernel, rfl, by decide +kernel, by decide +kernel⟩
def b_law_asked_line : MS := (msSeq (msSet 1 (mCall m_law_read (mCons (mLst (mCons (mVar 0) mNil)) mNil))) (msSeq (msIf (mTest (mOp dEq (mOp dIx (mVar 1) (mC (.int 0))) (mC (.str ("told" : Str))))) (msSet 1 (mTup (mCons (mC (.str ("told" : Str))) (mCons (mOp dIx (mOp dIx (mVar 1) (mC (.int 1))) (mC (.int 0))) mNil)))) msNext) (msSeq (msTry nC NX sX 1 2 (msSet 3 (mTup (mCons (mC (.str ("told" : Str))) (mCons (mCall m_read_reading (mCons (mVar 0) mNil)) mNil)))) (fun cn fs => (msSet 3 (fun _ st => m_law_error cn fs st)))) (msRet (mCall (m_law_same 20) (mCons (mVar 3) (mCons (mVar 1) mNil)))))))
def m_law_asked_line : List D → Store → Res D := mDef 4 b_law_asked_line
/-! _law_there_and_back -/
abbrev s_law_there_and_back : Stmt := (top 39)
abbrev N_law_there_and_back : List Str := ["_law_chapters", "_law_form", "_law_lines", "_law_passed_in", "_law_k", "_law_chapter"]
theorem sc_law_there_and_back : FnScope N_law_there_and_back ["_law_chapters", "_law_form"] (defScope s_law_there_and_back) := ⟨rfl, rfl, rfl, by decide +kernel, rfl, by decide +kernel, by decide +kernel⟩
def b_law_there_and_back : MS := (msSeq (msSet 2 (mLc (mAny (mVar 0)) (gvName 5) mYes (mCall m_law_reading_line (mCons (mVar 5) mNil)) [5])) (msSeq (msSet 3 (mIf (mTest (mOp dEq (mVar 1) (mC (.int 1)))) (mCall (m_law_lists 20) (mCons (mVar 0) mNil)) (mVar 0))) (msSeq (msIf (mNot (mTest (mCall (m_law_same 20) (mCons (mCall m_write_work (mCons (mVar 3) mNil)) (mCons (mCall bTuple (mCons (mVar 2) mNil)) mNil))))) (msRet (mC (.bl false))) msNext) (msSeq (msFor (mRng1 (mCons (mCall bLen (mCons (mVar 0) mNil)) mNil)) (gvName 4) (msSeq (msIf (mNot (mTest (mCall (m_law_same 20) (mCons (mCall m_write_reading (mCons (mOp dIx (mVar 3) (mVar 4)) mNil)) (mCons (mOp dIx (mVar 2) (mVar 4)) mNil))))) (msRet (mC (.bl false))) msNext) (msIf (mNot (mTest (mCall (m_law_same 20) (mCons (mCall m_read_reading (mCons (mOp dIx (mVar 2) (mVar 4)) mNil)) (mCons (mOp dIx (mVar 0) (mVar 4)) mNil))))) (msRet (mC (.bl false))) msNext))) (msSeq (msIf (mNot (mTest (mCall m_law_asked_work (mCons (mIf (mTest (mOp dEq (mVar 1) (mC (.int 1)))) (mCall bTuple (mCons (mVar 2) mNil)) (mVar 2)) (mCons (mTup (mCons (mC (.str ("told" : Str))) (mCons (mVar 0) mNil))) mNil))))) (msRet (mC (.bl false))) msNext) (msRet (mOrV (mNotV (mOp dEq (mVar 1) (mC (.int 1)))) (mOp dEq (mVar 3) (mCall (m_law_lists 20) (mCons (mVar 0) mNil))))))))))
def m_law_there_and_back : List D → Store → Res D := mDef 6 b_law_there_and_back
/-! _law_round -/
abbrev s_law_round : Stmt := (top 40)
abbrev N_law_round : List Str := ["_law_source_here", "_law_form", "_law_pool", "_law_many", "_law_chapters", "_law_good", "_law_j", "_law_lines", "_law_k", "_law_asked", "_law_due", "_law_chapter"]
theorem sc_law_round : FnScope N_law_round ["_law_source_here", "_law_form"] (defScope s_law_round) := ⟨rfl, rfl, rfl, by decide +kernel, rfl, by decide +kernel, by decide +kernel⟩
def b_law_round : MS := (msSeq (msDrop (mCall m_law_next (mCons (mVar 0) mNil))) (msSeq (msSet 2 (mCall m_law_words (mCons (mVar 0) (mCons (mC (.int 3)) (mCons (mC (.int 7)) (mCons (mLst mNil) mNil)))))) (msSeq (msSet 3 (mOp dAdd (mC (.int 1)) (mCall m_law_pick (mCons (mVar 0) (mCons (mC (.int 6)) mNil))))) (msSeq (msSet 4 (mCall bTuple (mCons (mLc (mRng1 (mCons (mVar 3) mNil)) (gvName 8) mYes (mCall m_law_wide_reading (mCons (mVar 0) (mCons (mVar 2) mNil))) [8]) mNil))) (msSeq (msIf (mNot (mTest (mCall m_law_there_and_back (mCons (mVar 4) (mCons (mVar 1) mNil))))) (msRet (mC (.bl false))) msNext) (msSeq (msSet 5 (mLc (mAny (mVar 4)) (gvName 11) mYes (mCall m_law_reading_line (mCons (mVar 11) mNil)) [11])) (msSeq (msFor (mRng1 (mCons (mC (.int 4)) mNil)) (gvName 6) (msSeq (msDrop (mCall m_law_next (mCons (mVar 0) mNil))) (msSeq (msSet 7 (mCall bList (mCons (mVar 5) mNil))) (msSeq (msFor (mRng1 (mCons (mOp dAdd (mC (.int 1)) (mCall m_law_pick (mCons (mVar 0) (mCons (mC (.int 2)) mNil)))) mNil)) (gvName 8) (msSet 7 (mCall m_law_bent_lines (mCons (mVar 0) (mCons (mVar 7) mNil))))) (msSeq (msSet 9 (mCall bList (mCons (mVar 7) mNil))) (msSeq (msSet 10 (mCall m_law_read (mCons (mVar 7) mNil))) (msSeq (msIf (mOr (mNot (mTest (mCall m_law_asked_work (mCons (mIf (mTest (mOp dEq (mVar 1) (mC (.int 1)))) (mVar 9) (mCall bTuple (mCons (mVar 9) mNil))) (mCons (mVar 10) mNil))))) (mNot (mTest (mOp dEq (mVar 9) (mVar 7))))) (msRet (mC (.bl false))) msNext) (msIf (mAnd (mTru (mVar 7)) (mNot (mTest (mCall m_law_asked_line (mCons (mCall m_law_one_of (mCons (mVar 0) (mCons (mVar 7) mNil))) mNil))))) (msRet (mC (.bl false))) msNext)))))))) (msRet (mCall m_law_there_and_back (mCons (mVar 4) (mCons (mOp dSub (mC (.int 1)) (mVar 1)) mNil)))))))))))
def m_law_round : List D → Store → Res D := mDef 12 b_law_round
/-! law -/
abbrev s_law : Stmt := (top 41)
abbrev N_law : List Str := ["_law_script", "_law_source_here"]
theorem sc_law : FnScope N_law ["_law_script"] (defScope s_law) := ⟨rfl, rfl, rfl, by decide +kernel, rfl, by decide +kernel, by decide +kernel⟩
def b_law : MS := (msSeq (msSet 1 (mCall m_law_source (mCons (mVar 0) (mCons (mC (.int 0)) mNil)))) (msRet (mAndV (mCall m_law_round (mCons (mVar 1) (mCons (mC (.int 0)) mNil))) (mAndV (mCall m_law_round (mCons (mVar 1) (mCons (mC (.int 1)) mNil))) (mCall m_law_round (mCons (mVar 1) (mCons (mC (.int 0)) mNil)))))))
def m_law : List D → Store → Res D := mDef 2 b_law
variable {G : Gd} (B : Bx G) (KF : Kf G nC jC) (NA : NoA G nC naC) (EX : Ef G nC NX sX lX)
include B KF NA EX
theorem d_LineReader_init (E : XK) : DSs G (defCt N_LineReader_init (defScope s_LineReader_init)) 0 (fun _ => E) (defBody s_LineReader_init) b_LineReader_init := by
  have S := sc_LineReader_init
  exact (dss_cons (ds_setFld KF NA (de_ty db_tuple B.tuple_ rfl (by decide +kernel) (da_cons (de_var 1) da_nil)) (de_var 0)) (dss_cons (ds_setFld KF NA (de_neg de_int) (de_var 0)) (dss_cons (ds_setFld KF NA (de_tup da_nil) (de_var 0)) (dss_one (ds_setFld KF NA de_int (de_var 0))))))
theorem d_write_reading (E : XK) : DSs G (defCt N_write_reading (defScope s_write_reading)) 0 (fun _ => E) (defBody s_write_reading) b_write_reading := by
  have S := sc_write_reading
  exact (dss_one (ds_ret (de_join de_str (de_op do_add (de_lst (da_cons de_str da_nil)) (de_lc (own := [(("word" : Str), 1), (("pick" : Str), 2)]) (vs := [1, 2]) S.nd rfl (di_any (de_var 0)) (by decide +kernel) (dg_any (dgs_cons (dg_name (i := 1) rfl (by first | exact Or.inl rfl | exact Or.inr ⟨rfl, rfl⟩) S.nd (by decide)) (dgs_cons (dg_name (i := 2) rfl (by first | exact Or.inl rfl | exact Or.inr ⟨rfl, rfl⟩) S.nd (by decide)) dgs_nil))) dts_nil (de_if (dt_cmp do_eq (de_var 2) de_int) (de_var 1) (de_joined (dj_cons (de_fmt (de_var 1)) (dj_cons de_str (dj_cons (de_fmt (de_var 2)) dj_nil))))))))))
theorem d_pick_of (E : XK) : DSs G (defCt N_pick_of (defScope s_pick_of)) 0 (fun _ => E) (defBody s_pick_of) b_pick_of := by
  have S := sc_pick_of
  exact (dss_cons (ds_asg (vs := [1, 2, 3]) (de_partition (de_var 0) de_str) (dg_any (dgs_cons (dg_name (i := 1) rfl (by first | exact Or.inl rfl | exact Or.inr ⟨rfl, rfl⟩) S.nd (by decide)) (dgs_cons (dg_name (i := 2) rfl (by first | exact Or.inl rfl | exact Or.inr ⟨rfl, rfl⟩) S.nd (by decide)) (dgs_cons (dg_name (i := 3) rfl (by first | exact Or.inl rfl | exact Or.inr ⟨rfl, rfl⟩) S.nd (by decide)) dgs_nil))))) (dss_one (ds_ret (de_tup (da_cons (de_var 1) (da_cons (de_if (dt_cmp do_eq (de_var 2) de_str) de_int (de_ty db_int2 B.int_ rfl (by decide +kernel) (da_cons (de_var 3) da_nil))) da_nil))))))
theorem d_law_source (E : XK) : DSs G (defCt N_law_source (defScope s_law_source)) 0 (fun _ => E) (defBody s_law_source) b_law_source := by
  have S := sc_law_source
  exact (dss_one (ds_ret (de_lstM (da_cons (de_var 0) (da_cons (de_var 1) (da_cons de_int (da_cons de_int (da_cons de_int da_nil))))))))
theorem d_law_next (E : XK) : DSs G (defCt N_law_next (defScope s_law_next)) 0 (fun _ => E) (defBody s_law_next) b_law_next := by
  have S := sc_law_next
  exact (dss_cons (ds_set (i := 1) rfl (by first | exact Or.inl rfl | exact Or.inr ⟨rfl, rfl⟩) S.nd (de_ix (de_var 0) de_int)) (dss_cons (ds_set (i := 2) rfl (by first | exact Or.inl rfl | exact Or.inr ⟨rfl, rfl⟩) S.nd (de_ix (de_var 0) de_int)) (dss_cons (ds_set (i := 3) rfl (by first | exact Or.inl rfl | exact Or.inr ⟨rfl, rfl⟩) S.nd (de_if (dt_cmp do_lt (de_var 2) (de_blt db_len B.len_ rfl (by decide +kernel) (da_cons (de_var 1) da_nil))) (de_ix (de_var 1) (de_var 2)) (de_op do_mod (de_ty db_int B.int_ rfl (by decide +kernel) (da_cons (de_op do_add (de_blt db_sum B.sum_ rfl (by decide +kernel) (da_cons (de_slice (de_var 1) dp_n (dp_s de_int)) da_nil)) (de_op do_mul de_int (de_var 2))) da_nil)) de_int))) (dss_cons (ds_setIx (de_op do_add (de_var 2) de_int) (de_var 0) de_int) (dss_cons (ds_setIx (de_if (dt_cmp do_ge (de_blt db_abs B.abs_ rfl (by decide +kernel) (da_cons (de_var 3) da_nil)) (de_op do_pow de_int de_int)) (de_op do_add (de_blt db_abs B.abs_ rfl (by decide +kernel) (da_cons (de_var 3) da_nil)) (de_ty db_int B.int_ rfl (by decide +kernel) (da_cons (de_cmp do_lt (de_var 3) de_int) da_nil))) de_int) (de_var 0) de_int) (dss_cons (ds_setIx (de_op do_add (de_op do_mod (de_ty db_int B.int_ rfl (by decide +kernel) (da_cons (de_var 3) da_nil)) de_int) (de_op do_mul de_int (de_ix (de_var 0) de_int))) (de_var 0) de_int) (dss_one (ds_setIx de_int (de_var 0) de_int))))))))
theorem d_law_pick (E : XK) : DSs G (defCt N_law_pick (defScope s_law_pick)) 0 (fun _ => E) (defBody s_law_pick) b_law_pick := by
  have S := sc_law_pick
  exact (dss_cons (ds_if (dt_cmp do_gt (de_ix (de_var 0) de_int) de_int) (dss_cons (ds_set (i := 5) rfl (by first | exact Or.inl rfl | exact Or.inr ⟨rfl, rfl⟩) S.nd (de_op do_mod (de_ty db_int B.int_ rfl (by decide +kernel) (da_cons (de_ix (de_var 0) de_int) da_nil)) (de_var 1))) (dss_cons (ds_setIx (de_op do_fdiv (de_ix (de_var 0) de_int) (de_var 1)) (de_var 0) de_int) (dss_one (ds_ret (de_var 5))))) dss_nil) (dss_cons (ds_setIx (de_op do_add (de_ix (de_var 0) de_int) de_int) (de_var 0) de_int) (dss_cons (ds_set (i := 2) rfl (by first | exact Or.inl rfl | exact Or.inr ⟨rfl, rfl⟩) S.nd (de_op do_mod (de_ty db_int B.int_ rfl (by decide +kernel) (da_cons (de_op do_add (de_op do_add (de_op do_mul (de_ix (de_var 0) de_int) de_int) (de_op do_mul (de_ix (de_var 0) de_int) de_int)) de_int) da_nil)) de_int)) (dss_cons (ds_set (i := 3) rfl (by first | exact Or.inl rfl | exact Or.inr ⟨rfl, rfl⟩) S.nd (de_op do_mod (de_ty db_int B.int_ rfl (by decide +kernel) (da_cons (de_op do_add (de_op do_mul (de_var 2) (de_var 2)) (de_op do_mul de_int (de_ix (de_var 0) de_int))) da_nil)) de_int)) (dss_cons (ds_set (i := 4) rfl (by first | exact Or.inl rfl | exact Or.inr ⟨rfl, rfl⟩) S.nd (de_op do_mod (de_ty db_int B.int_ rfl (by decide +kernel) (da_cons (de_op do_mul (de_var 3) (de_var 3)) da_nil)) de_int)) (dss_one (ds_ret (de_op do_mod (de_ty db_int B.int_ rfl (by decide +kernel) (da_cons (de_op do_add (de_op do_fdiv (de_var 4) de_int) (de_op do_fdiv (de_var 2) de_int)) da_nil)) (de_var 1)))))))))
theorem d_law_letter (E : XK) : DSs G (defCt N_law_letter (defScope s_law_letter)) 0 (fun _ => E) (defBody s_law_letter) b_law_letter := by
  have S := sc_law_letter
  exact (dss_one (ds_ret (de_ix de_str (de_op do_mod (de_ty db_int B.int_ rfl (by decide +kernel) (da_cons (de_var 0) da_nil)) de_int))))
theorem d_law_is_word (E : XK) : DSs G (defCt N_law_is_word (defScope s_law_is_word)) 0 (fun _ => E) (defBody s_law_is_word) b_law_is_word := by
  have S := sc_law_is_word
  exact (dss_one (ds_ret (de_and (de_chain do_le do_le de_int (de_blt db_len B.len_ rfl (by decide +kernel) (da_cons (de_var 0) da_nil)) de_int) (de_one (de_blt db_all B.all_ rfl (by decide +kernel) (da_cons (de_lc (own := [(("_law_letter_here" : Str), 1)]) (vs := [1]) S.nd rfl (di_any (de_var 0)) (by decide +kernel) (dg_name (i := 1) rfl (by first | exact Or.inl rfl | exact Or.inr ⟨rfl, rfl⟩) S.nd (by decide)) dts_nil (de_cmp do_inSD (de_var 1) de_str)) da_nil))))))
theorem d_law_reading_line (E : XK) : DSs G (defCt N_law_reading_line (defScope s_law_reading_line)) 0 (fun _ => E) (defBody s_law_reading_line) b_law_reading_line := by
  have S := sc_law_reading_line
  exact (dss_one (ds_ret (de_join de_str (de_op do_add (de_lst (da_cons de_str da_nil)) (de_lc (own := [(("_law_pair" : Str), 1)]) (vs := [1]) S.nd rfl (di_any (de_var 0)) (by decide +kernel) (dg_name (i := 1) rfl (by first | exact Or.inl rfl | exact Or.inr ⟨rfl, rfl⟩) S.nd (by decide)) dts_nil (de_op do_add (de_ix (de_var 1) de_int) (de_ix (de_lst (da_cons de_str (da_cons de_str (da_cons de_str da_nil)))) (de_ix (de_var 1) de_int))))))))
theorem d_law_error : HSs G (defCt N_law_error (defScope s_law_error)) 0 0 (defBody s_law_error) b_law_error := by
  have S := sc_law_error
  exact (hss_cons (hs_if (ht_of (hw_or (ht_not (ht_val (he_is EX B.isinstance_ rfl rfl B.c_BadLine rfl))) (hw_or1 (ht_not (ht_val (he_isV EX B.isinstance_ rfl rfl B.ValueError_ rfl)))))) (hss_one (hs_ret (he_tup (ha_cons he_str ha_nil)))) hss_nil) (hss_cons (hs_if (ht_of (hw_or (ht_val (he_is EX B.isinstance_ rfl rfl B.c_BadWork rfl)) (hw_or1 (ht_val (he_is EX B.isinstance_ rfl rfl B.c_BadReading rfl))))) (hss_one (hs_ret (he_tup (ha_cons he_str ha_nil)))) hss_nil) (hss_one (hs_ret (he_tup (ha_cons he_str (ha_cons (he_fld EX rfl) (ha_cons (he_fld EX rfl) ha_nil))))))))
theorem d_is_word (E : XK) : DSs G (defCt N_is_word (defScope s_is_word)) 0 (fun _ => E) (defBody s_is_word) b_is_word := by
  have S := sc_is_word
  exact (dss_cons (ds_if (dt_of (dw_or (dt_not (dt_val (de_isi1 KF B.isinstance_ rfl (de_var 0) (de_tyName B.str_ rfl (by decide +kernel))))) (dw_or1 (dt_not (dt_chain do_le do_le de_int (de_blt db_len B.len_ rfl (by decide +kernel) (da_cons (de_var 0) da_nil)) de_int))))) (dss_one (ds_ret de_bl)) dss_nil) (dss_one (ds_ret (de_blt db_all B.all_ rfl (by decide +kernel) (da_cons (de_lc (own := [(("sign" : Str), 1)]) (vs := [1]) S.nd rfl (di_any (de_var 0)) (by decide +kernel) (dg_name (i := 1) rfl (by first | exact Or.inl rfl | exact Or.inr ⟨rfl, rfl⟩) S.nd (by decide)) dts_nil (de_chain do_le do_le de_str (de_var 1) de_str)) da_nil)))))
theorem d_write_work (F_write_reading : Fd G "write_reading" 1 1 [] m_write_reading) (E : XK) : DSs G (defCt N_write_work (defScope s_write_work)) 1 (fun _ => E) (defBody s_write_work) b_write_work := by
  have S := sc_write_work
  exact (dss_one (ds_ret (de_ty db_tuple B.tuple_ rfl (by decide +kernel) (da_cons (de_lc (own := [(("chapter" : Str), 1)]) (vs := [1]) S.nd rfl (di_any (de_var 0)) (by decide +kernel) (dg_name (i := 1) rfl (by first | exact Or.inl rfl | exact Or.inr ⟨rfl, rfl⟩) S.nd (by decide)) dts_nil (de_call F_write_reading (by first | decide | omega) rfl (da_cons (de_var 1) da_nil) (.cons .nil))) da_nil))))
theorem d_is_pick_text (F_is_word : Fd G "is_word" 1 1 [] m_is_word) (E : XK) : DSs G (defCt N_is_pick_text (defScope s_is_pick_text)) 1 (fun _ => E) (defBody s_is_pick_text) b_is_pick_text := by
  have S := sc_is_pick_text
  exact (dss_cons (ds_asg (vs := [1, 2, 3]) (de_partition (de_var 0) de_str) (dg_any (dgs_cons (dg_name (i := 1) rfl (by first | exact Or.inl rfl | exact Or.inr ⟨rfl, rfl⟩) S.nd (by decide)) (dgs_cons (dg_name (i := 2) rfl (by first | exact Or.inl rfl | exact Or.inr ⟨rfl, rfl⟩) S.nd (by decide)) (dgs_cons (dg_name (i := 3) rfl (by first | exact Or.inl rfl | exact Or.inr ⟨rfl, rfl⟩) S.nd (by decide)) dgs_nil))))) (dss_one (ds_ret (de_and (de_call F_is_word (by first | decide | omega) rfl (da_cons (de_var 1) da_nil) (.cons .nil)) (de_one (de_or (de_cmp do_eq (de_var 2) de_str) (de_one (de_cmp do_inD (de_var 3) (de_tup (da_cons de_str (da_cons de_str da_nil)))))))))))
theorem d_law_one_in (F_law_pick : Fd G "_law_pick" 2 1 [] m_law_pick) (E : XK) : DSs G (defCt N_law_one_in (defScope s_law_one_in)) 1 (fun _ => E) (defBody s_law_one_in) b_law_one_in := by
  have S := sc_law_one_in
  exact (dss_one (ds_ret (de_cmp do_eq (de_call F_law_pick (by first | decide | omega) rfl (da_cons (de_var 0) (da_cons (de_var 1) da_nil)) (.cons (.cons .nil))) de_int)))
theorem d_law_one_of (F_law_pick : Fd G "_law_pick" 2 1 [] m_law_pick) (E : XK) : DSs G (defCt N_law_one_of (defScope s_law_one_of)) 1 (fun _ => E) (defBody s_law_one_of) b_law_one_of := by
  have S := sc_law_one_of
  exact (dss_one (ds_ret (de_ix (de_var 1) (de_call F_law_pick (by first | decide | omega) rfl (da_cons (de_var 0) (da_cons (de_blt db_len B.len_ rfl (by decide +kernel) (da_cons (de_var 1) da_nil)) da_nil)) (.cons (.cons .nil))))))
theorem d_law_word (F_law_letter : Fd G "_law_letter" 1 1 [] m_law_letter) (F_law_pick : Fd G "_law_pick" 2 1 [] m_law_pick) (E : XK) : DSs G (defCt N_law_word (defScope s_law_word)) 1 (fun _ => E) (defBody s_law_word) b_law_word := by
  have S := sc_law_word
  exact (dss_cons (ds_set (i := 2) rfl (by first | exact Or.inl rfl | exact Or.inr ⟨rfl, rfl⟩) S.nd (de_op do_add de_int (de_call F_law_pick (by first | decide | omega) rfl (da_cons (de_var 0) (da_cons (de_var 1) da_nil)) (.cons (.cons .nil))))) (dss_one (ds_ret (de_join de_str (de_lc (own := [(("_law_k" : Str), 3)]) (vs := [3]) S.nd rfl (di_rng1 B.range_ rfl (da_cons (de_var 2) da_nil)) (by decide +kernel) (dg_name (i := 3) rfl (by first | exact Or.inl rfl | exact Or.inr ⟨rfl, rfl⟩) S.nd (by decide)) dts_nil (de_call F_law_letter (by first | decide | omega) rfl (da_cons (de_call F_law_pick (by first | decide | omega) rfl (da_cons (de_var 0) (da_cons de_int da_nil)) (.cons (.cons .nil))) da_nil) (.cons .nil)))))))
theorem d_law_pair_of (F_law_is_word : Fd G "_law_is_word" 1 1 [] m_law_is_word) (E : XK) : DSs G (defCt N_law_pair_of (defScope s_law_pair_of)) 1 (fun _ => E) (defBody s_law_pair_of) b_law_pair_of := by
  have S := sc_law_pair_of
  exact (dss_cons (ds_set (i := 1) rfl (by first | exact Or.inl rfl | exact Or.inr ⟨rfl, rfl⟩) S.nd (de_split (de_var 0) de_str)) (dss_cons (ds_if (dt_of (dw_or (dt_cmp do_gt (de_blt db_len B.len_ rfl (by decide +kernel) (da_cons (de_var 1) da_nil)) de_int) (dw_or1 (dt_not (dt_val (de_call F_law_is_word (by first | decide | omega) rfl (da_cons (de_ix (de_var 1) de_int) da_nil) (.cons .nil))))))) (dss_one (ds_ret de_non)) dss_nil) (dss_cons (ds_if (dt_cmp do_eq (de_blt db_len B.len_ rfl (by decide +kernel) (da_cons (de_var 1) da_nil)) de_int) (dss_one (ds_ret (de_tup (da_cons (de_var 0) (da_cons de_int da_nil))))) dss_nil) (dss_one (ds_ret (de_if (dt_cmp do_inD (de_ix (de_var 1) de_int) (de_tup (da_cons de_str (da_cons de_str da_nil)))) (de_tup (da_cons (de_ix (de_var 1) de_int) (da_cons (de_index (de_lst (da_cons de_str (da_cons de_str (da_cons de_str da_nil)))) (da_cons (de_ix (de_var 1) de_int) da_nil)) da_nil))) de_non))))))
theorem d_LineReader_head (X_BadLine : Xc G "BadLine" 3 ["line", "word"] 1) (E : XK) : DSs G (defCt N_LineReader_head (defScope s_LineReader_head)) 2 (fun _ => E) (defBody s_LineReader_head) b_LineReader_head := by
  have S := sc_LineReader_head
  exact (dss_cons (ds_set (i := 1) rfl (by first | exact Or.inl rfl | exact Or.inr ⟨rfl, rfl⟩) S.nd (de_op do_add (de_fld KF NA (de_var 0)) de_int)) (dss_cons (ds_if (dt_cmp do_eq (de_var 1) (de_blt db_len B.len_ rfl (by decide +kernel) (da_cons (de_fld KF NA (de_var 0)) da_nil))) (dss_one (ds_ret de_non)) dss_nil) (dss_cons (ds_if (dt_not (dt_val (de_isi1 KF B.isinstance_ rfl (de_ix (de_fld KF NA (de_var 0)) (de_var 1)) (de_tyName B.str_ rfl (by decide +kernel))))) (dss_one (ds_raise X_BadLine (by decide) rfl (da_cons (de_var 1) (da_cons de_int da_nil)))) dss_nil) (dss_one (ds_ret (de_ix (de_split (de_ix (de_fld KF NA (de_var 0)) (de_var 1)) de_str) de_int))))))
theorem d_LineReader_one (V_is_pick_text : Fv G 5 1 2 m_is_pick_text) (X_BadLine : Xc G "BadLine" 3 ["line", "word"] 1) (E : XK) : DSs G (defCt N_LineReader_one (defScope s_LineReader_one)) 2 (fun _ => E) (defBody s_LineReader_one) b_LineReader_one := by
  have S := sc_LineReader_one
  exact (dss_cons (ds_if (dt_of (dw_or (dt_cmp do_eq (de_fld KF NA (de_var 0)) (de_blt db_len B.len_ rfl (by decide +kernel) (da_cons (de_fld KF NA (de_var 0)) da_nil))) (dw_or1 (dt_not (dt_val (de_callV V_is_pick_text (by first | decide | omega) (de_var 1) (da_cons (de_ix (de_fld KF NA (de_var 0)) (de_fld KF NA (de_var 0))) da_nil) (.cons .nil))))))) (dss_one (ds_raise X_BadLine (by decide) rfl (da_cons (de_fld KF NA (de_var 0)) (da_cons (de_fld KF NA (de_var 0)) da_nil)))) dss_nil) (dss_cons (ds_augFld KF NA (fun X => in_add) (g := fun i j => i + j) (fun i j H Q q => ⟨i, j, rfl, rfl, q⟩) (de_var 0) de_int) (dss_one (ds_ret (de_ix (de_fld KF NA (de_var 0)) (de_op do_sub (de_fld KF NA (de_var 0)) de_int))))))
theorem d_LineReader_shut (X_BadLine : Xc G "BadLine" 3 ["line", "word"] 1) (E : XK) : DSs G (defCt N_LineReader_shut (defScope s_LineReader_shut)) 2 (fun _ => E) (defBody s_LineReader_shut) b_LineReader_shut := by
  have S := sc_LineReader_shut
  exact (dss_one (ds_if (dt_cmp do_lt (de_fld KF NA (de_var 0)) (de_blt db_len B.len_ rfl (by decide +kernel) (da_cons (de_fld KF NA (de_var 0)) da_nil))) (dss_one (ds_raise X_BadLine (by decide) rfl (da_cons (de_fld KF NA (de_var 0)) (da_cons (de_fld KF NA (de_var 0)) da_nil)))) dss_nil))
theorem d_law_words (F_law_letter : Fd G "_law_letter" 1 1 [] m_law_letter) (F_law_word : Fd G "_law_word" 2 2 [] m_law_word) (E : XK) : DSs G (defCt N_law_words (defScope s_law_words)) 2 (fun _ => E) (defBody s_law_words) b_law_words := by
  have S := sc_law_words
  exact (dss_cons (ds_set (i := 4) rfl (by first | exact Or.inl rfl | exact Or.inr ⟨rfl, rfl⟩) S.nd (de_lstM da_nil)) (dss_cons (ds_for (vs := [5]) (di_rng1 B.range_ rfl (da_cons (de_var 1) da_nil)) (dg_name (i := 5) rfl (by first | exact Or.inl rfl | exact Or.inr ⟨rfl, rfl⟩) S.nd (by decide)) (dss_cons (ds_set (i := 6) rfl (by first | exact Or.inl rfl | exact Or.inr ⟨rfl, rfl⟩) S.nd (de_call F_law_word (by first | decide | omega) rfl (da_cons (de_var 0) (da_cons (de_var 2) da_nil)) (.cons (.cons .nil)))) (dss_cons (ds_set (i := 7) rfl (by first | exact Or.inl rfl | exact Or.inr ⟨rfl, rfl⟩) S.nd (de_op do_add (de_op do_add (de_blt db_len B.len_ rfl (by decide +kernel) (da_cons (de_var 3) da_nil)) (de_blt db_len B.len_ rfl (by decide +kernel) (da_cons (de_var 4) da_nil))) de_int)) (dss_cons (ds_set (i := 8) rfl (by first | exact Or.inl rfl | exact Or.inr ⟨rfl, rfl⟩) S.nd (de_op do_add (de_lst (da_cons (de_var 6) da_nil)) (de_lc (own := [(("_law_j" : Str), 9)]) (vs := [9]) S.nd rfl (di_rng1 B.range_ rfl (da_cons (de_var 7) da_nil)) (by decide +kernel) (dg_name (i := 9) rfl (by first | exact Or.inl rfl | exact Or.inr ⟨rfl, rfl⟩) S.nd (by decide)) dts_nil (de_op do_add (de_op do_add (de_slice (de_var 6) dp_n (dp_s (de_op do_sub (de_var 2) de_int))) (de_call F_law_letter (by first | decide | omega) rfl (da_cons (de_op do_fdiv (de_var 9) de_int) da_nil) (.cons .nil))) (de_call F_law_letter (by first | decide | omega) rfl (da_cons (de_var 9) da_nil) (.cons .nil)))))) (dss_one (ds_expr (de_append (de_var 4) (da_cons (de_ix (de_lc (own := [(("_law_one" : Str), 10)]) (vs := [10]) S.nd rfl (di_any (de_var 8)) (by decide +kernel) (dg_name (i := 10) rfl (by first | exact Or.inl rfl | exact Or.inr ⟨rfl, rfl⟩) S.nd (by decide)) (dts_one (dt_of (dw_and (dt_cmp do_notinD (de_var 10) (de_var 3)) (dw_and1 (dt_cmp do_notinD (de_var 10) (de_var 4)))))) (de_var 10)) de_int) da_nil)))))))) (dss_one (ds_ret (de_var 4)))))
theorem d_law_read (F_law_pair_of : Fd G "_law_pair_of" 1 2 [] m_law_pair_of) (E : XK) : DSs G (defCt N_law_read (defScope s_law_read)) 2 (fun _ => E) (defBody s_law_read) b_law_read := by
  have S := sc_law_read
  exact (dss_cons (ds_if (dt_cmp do_eq (de_blt db_len B.len_ rfl (by decide +kernel) (da_cons (de_var 0) da_nil)) de_int) (dss_one (ds_ret (de_tup (da_cons de_str (da_cons de_int (da_cons de_int da_nil)))))) dss_nil) (dss_cons (ds_set (i := 1) rfl (by first | exact Or.inl rfl | exact Or.inr ⟨rfl, rfl⟩) S.nd (de_lstM da_nil)) (dss_cons (ds_for (vs := [2]) (di_rng1 B.range_ rfl (da_cons (de_blt db_len B.len_ rfl (by decide +kernel) (da_cons (de_var 0) da_nil)) da_nil)) (dg_name (i := 2) rfl (by first | exact Or.inl rfl | exact Or.inr ⟨rfl, rfl⟩) S.nd (by decide)) (dss_cons (ds_if (dt_of (dw_or (dt_cmp do_eq (de_var 2) de_int) (dw_or1 (dt_not (dt_val (de_isi1 KF B.isinstance_ rfl (de_ix (de_var 0) (de_var 2)) (de_tyName B.str_ rfl (by decide +kernel)))))))) (dss_one (ds_ret (de_tup (da_cons de_str (da_cons (de_var 2) (da_cons de_int da_nil)))))) dss_nil) (dss_cons (ds_set (i := 3) rfl (by first | exact Or.inl rfl | exact Or.inr ⟨rfl, rfl⟩) S.nd (de_split (de_ix (de_var 0) (de_var 2)) de_str)) (dss_cons (ds_if (dt_cmp do_ne (de_ix (de_var 3) de_int) de_str) (dss_one (ds_ret (de_tup (da_cons de_str (da_cons (de_var 2) (da_cons de_int da_nil)))))) dss_nil) (dss_cons (ds_setLc (i := 4) (own := [(("_law_word_here" : Str), 5)]) (vs := [5]) S.nd rfl rfl rfl rfl (by decide +kernel) rfl (di_any (de_slice (de_var 3) (dp_s de_int) dp_n)) (by decide +kernel) (dg_name (i := 5) rfl (by first | exact Or.inl rfl | exact Or.inr ⟨rfl, rfl⟩) S.nd (by decide)) dts_nil (de_call F_law_pair_of (by first | decide | omega) rfl (da_cons (de_var 5) da_nil) (.cons .nil)) (Or.inl rfl)) (dss_cons (ds_if (dt_cmp do_inP de_non (de_var 4)) (dss_one (ds_ret (de_tup (da_cons de_str (da_cons (de_var 2) (da_cons (de_op do_add de_int (de_indexP (by decide) (de_var 4) (da_cons de_non da_nil))) da_nil)))))) dss_nil) (dss_one (ds_expr (de_append (de_var 1) (da_cons (de_ty db_tuple B.tuple_ rfl (by decide +kernel) (da_cons (de_var 4) da_nil)) da_nil)))))))))) (dss_one (ds_ret (de_tup (da_cons de_str (da_cons (de_ty db_tuple B.tuple_ rfl (by decide +kernel) (da_cons (de_var 1) da_nil)) da_nil))))))))
theorem d_law_wide_reading (F_law_next : Fd G "_law_next" 1 1 [] m_law_next) (F_law_one_in : Fd G "_law_one_in" 2 2 [] m_law_one_in) (F_law_one_of : Fd G "_law_one_of" 2 2 [] m_law_one_of) (F_law_pick : Fd G "_law_pick" 2 1 [] m_law_pick) (E : XK) : DSs G (defCt N_law_wide_reading (defScope s_law_wide_reading)) 2 (fun _ => E) (defBody s_law_wide_reading) b_law_wide_reading := by
  have S := sc_law_wide_reading
  exact (dss_cons (ds_expr (de_call F_law_next (by first | decide | omega) rfl (da_cons (de_var 0) da_nil) (.cons .nil))) (dss_cons (ds_set (i := 2) rfl (by first | exact Or.inl rfl | exact Or.inr ⟨rfl, rfl⟩) S.nd (de_call F_law_pick (by first | decide | omega) rfl (da_cons (de_var 0) (da_cons de_int da_nil)) (.cons (.cons .nil)))) (dss_cons (ds_if (dt_val (de_call F_law_one_in (by first | decide | omega) rfl (da_cons (de_var 0) (da_cons de_int da_nil)) (.cons (.cons .nil)))) (dss_one (ds_set (i := 2) rfl (by first | exact Or.inl rfl | exact Or.inr ⟨rfl, rfl⟩) S.nd (de_op do_add de_int (de_call F_law_pick (by first | decide | omega) rfl (da_cons (de_var 0) (da_cons de_int da_nil)) (.cons (.cons .nil)))))) dss_nil) (dss_one (ds_ret (de_ty db_tuple B.tuple_ rfl (by decide +kernel) (da_cons (de_lc (own := [(("_law_k" : Str), 3)]) (vs := [3]) S.nd rfl (di_rng1 B.range_ rfl (da_cons (de_var 2) da_nil)) (by decide +kernel) (dg_name (i := 3) rfl (by first | exact Or.inl rfl | exact Or.inr ⟨rfl, rfl⟩) S.nd (by decide)) dts_nil (de_tup (da_cons (de_call F_law_one_of (by first | decide | omega) rfl (da_cons (de_var 0) (da_cons (de_var 1) da_nil)) (.cons (.cons .nil))) (da_cons (de_call F_law_pick (by first | decide | omega) rfl (da_cons (de_var 0) (da_cons de_int da_nil)) (.cons (.cons .nil))) da_nil)))) da_nil)))))))
theorem d_law_bent_line (F_law_one_in : Fd G "_law_one_in" 2 2 [] m_law_one_in) (F_law_one_of : Fd G "_law_one_of" 2 2 [] m_law_one_of) (F_law_pick : Fd G "_law_pick" 2 1 [] m_law_pick) (E : XK) : DSs G (defCt N_law_bent_line (defScope s_law_bent_line)) 2 (fun _ => E) (defBody s_law_bent_line) b_law_bent_line := by
  have S := sc_law_bent_line
  exact (dss_cons (ds_set (i := 2) rfl (by first | exact Or.inl rfl | exact Or.inr ⟨rfl, rfl⟩) S.nd (de_splitM (de_var 1) de_str)) (dss_cons (ds_set (i := 3) rfl (by first | exact Or.inl rfl | exact Or.inr ⟨rfl, rfl⟩) S.nd (de_call F_law_pick (by first | decide | omega) rfl (da_cons (de_var 0) (da_cons (de_op do_add (de_blt db_len B.len_ rfl (by decide +kernel) (da_cons (de_var 2) da_nil)) de_int) da_nil)) (.cons (.cons .nil)))) (dss_cons (ds_if (dt_of (dw_and (dt_cmp do_gt (de_blt db_len B.len_ rfl (by decide +kernel) (da_cons (de_var 2) da_nil)) de_int) (dw_and1 (dt_val (de_call F_law_one_in (by first | decide | omega) rfl (da_cons (de_var 0) (da_cons de_int da_nil)) (.cons (.cons .nil))))))) (dss_one (ds_set (i := 3) rfl (by first | exact Or.inl rfl | exact Or.inr ⟨rfl, rfl⟩) S.nd (de_op do_sub (de_blt db_len B.len_ rfl (by decide +kernel) (da_cons (de_var 2) da_nil)) (de_call F_law_pick (by first | decide | omega) rfl (da_cons (de_var 0) (da_cons de_int da_nil)) (.cons (.cons .nil)))))) dss_nil) (dss_cons (ds_set (i := 4) rfl (by first | exact Or.inl rfl | exact Or.inr ⟨rfl, rfl⟩) S.nd (de_lst (da_cons de_str (da_cons de_str (da_cons de_str (da_cons de_str (da_cons de_str (da_cons de_str (da_cons de_str (da_cons de_str (da_cons de_str (da_cons de_str (da_cons de_str (da_cons de_str da_nil)))))))))))))) (dss_cons (ds_set (i := 4) rfl (by first | exact Or.inl rfl | exact Or.inr ⟨rfl, rfl⟩) S.nd (de_op do_add (de_var 4) (de_lst (da_cons de_str (da_cons de_str (da_cons de_str (da_cons de_str (da_cons de_str (da_cons de_str (da_cons de_str (da_cons de_str (da_cons de_str (da_cons de_str da_nil))))))))))))) (dss_cons (ds_set (i := 5) rfl (by first | exact Or.inl rfl | exact Or.inr ⟨rfl, rfl⟩) S.nd (de_call F_law_one_of (by first | decide | omega) rfl (da_cons (de_var 0) (da_cons (de_var 4) da_nil)) (.cons (.cons .nil)))) (dss_cons (ds_set (i := 6) rfl (by first | exact Or.inl rfl | exact Or.inr ⟨rfl, rfl⟩) S.nd (de_call F_law_pick (by first | decide | omega) rfl (da_cons (de_var 0) (da_cons de_int da_nil)) (.cons (.cons .nil)))) (dss_cons (ds_if (dt_cmp do_eq (de_var 6) de_int) (dss_one (ds_expr (de_insert (de_var 2) (da_cons (de_var 3) (da_cons (de_var 5) da_nil))))) (dss_one (ds_if (dt_cmp do_eq (de_var 6) de_int) (dss_one (ds_set (i := 2) rfl (by first | exact Or.inl rfl | exact Or.inr ⟨rfl, rfl⟩) S.nd (de_op do_add (de_slice (de_var 2) dp_n (dp_s (de_var 3))) (de_slice (de_var 2) (dp_s (de_op do_add (de_var 3) de_int)) dp_n)))) (dss_one (ds_if (dt_cmp do_eq (de_var 6) de_int) (dss_one (ds_set (i := 2) rfl (by first | exact Or.inl rfl | exact Or.inr ⟨rfl, rfl⟩) S.nd (de_op do_add (de_var 2) (de_lstM (da_cons (de_var 5) da_nil))))) (dss_one (ds_set (i := 2) rfl (by first | exact Or.inl rfl | exact Or.inr ⟨rfl, rfl⟩) S.nd (de_op do_add (de_op do_add (de_slice (de_var 2) dp_n (dp_s (de_var 3))) (de_lstM (da_cons (de_var 5) da_nil))) (de_slice (de_var 2) (dp_s (de_op do_add (de_var 3) de_int)) dp_n))))))))) (dss_one (ds_ret (de_join de_str (de_var 2))))))))))))
theorem d_LineReader_take (X_BadLine : Xc G "BadLine" 3 ["line", "word"] 1) (M_LineReader_head : Mt G 0 "head" 0 3 m_LineReader_head) (E : XK) : DSs G (defCt N_LineReader_take (defScope s_LineReader_take)) 3 (fun _ => E) (defBody s_LineReader_take) b_LineReader_take := by
  have S := sc_LineReader_take
  exact (dss_cons (ds_if (dt_cmp do_ne (de_meth0 KF (by decide) M_LineReader_head (by first | decide | omega) (de_var 0)) (de_var 1)) (dss_one (ds_raise X_BadLine (by decide) rfl (da_cons (de_op do_add (de_fld KF NA (de_var 0)) de_int) (da_cons de_int da_nil)))) dss_nil) (dss_cons (ds_augFld KF NA (fun X => in_add) (g := fun i j => i + j) (fun i j H Q q => ⟨i, j, rfl, rfl, q⟩) (de_var 0) de_int) (dss_cons (ds_setFld KF NA (de_split (de_ix (de_fld KF NA (de_var 0)) (de_fld KF NA (de_var 0))) de_str) (de_var 0)) (dss_one (ds_setFld KF NA de_int (de_var 0))))))
theorem d_LineReader_rest (X_BadLine : Xc G "BadLine" 3 ["line", "word"] 1) (M_LineReader_one : Mt G 0 "one" 1 3 m_LineReader_one) (M_LineReader_shut : Mt G 0 "shut" 0 3 m_LineReader_shut) (E : XK) : DSs G (defCt N_LineReader_rest (defScope s_LineReader_rest)) 3 (fun _ => E) (defBody s_LineReader_rest) b_LineReader_rest := by
  have S := sc_LineReader_rest
  exact (dss_cons (ds_set (i := 4) rfl (by first | exact Or.inl rfl | exact Or.inr ⟨rfl, rfl⟩) S.nd (de_lstM da_nil)) (dss_cons (ds_while (dt_of (dw_and (dt_cmp do_lt (de_fld KF NA (de_var 0)) (de_blt db_len B.len_ rfl (by decide +kernel) (da_cons (de_fld KF NA (de_var 0)) da_nil))) (dw_and1 (dt_cmp do_ne (de_blt db_len B.len_ rfl (by decide +kernel) (da_cons (de_var 4) da_nil)) (de_var 3))))) (dss_one (ds_expr (de_append (de_var 4) (da_cons (de_meth KF (by decide) M_LineReader_one (by first | decide | omega) (de_var 0) (da_cons (de_var 1) da_nil) (.cons .nil)) da_nil))))) (dss_cons (ds_if (dt_cmp do_lt (de_blt db_len B.len_ rfl (by decide +kernel) (da_cons (de_var 4) da_nil)) (de_var 2)) (dss_one (ds_raise X_BadLine (by decide) rfl (da_cons (de_fld KF NA (de_var 0)) (da_cons (de_fld KF NA (de_var 0)) da_nil)))) dss_nil) (dss_cons (ds_expr (de_meth0 KF (by decide) M_LineReader_shut (by first | decide | omega) (de_var 0))) (dss_one (ds_ret (de_ty db_tuple B.tuple_ rfl (by decide +kernel) (da_cons (de_var 4) da_nil))))))))
theorem d_LineReader_past (X_BadLine : Xc G "BadLine" 3 ["line", "word"] 1) (M_LineReader_head : Mt G 0 "head" 0 3 m_LineReader_head) (E : XK) : DSs G (defCt N_LineReader_past (defScope s_LineReader_past)) 3 (fun _ => E) (defBody s_LineReader_past) b_LineReader_past := by
  have S := sc_LineReader_past
  exact (dss_one (ds_if (dt_notN (de_meth0 KF (by decide) M_LineReader_head (by first | decide | omega) (de_var 0))) (dss_one (ds_raise X_BadLine (by decide) rfl (da_cons (de_op do_add (de_fld KF NA (de_var 0)) de_int) (da_cons de_int da_nil)))) dss_nil))
theorem d_law_bent_lines (F_law_bent_line : Fd G "_law_bent_line" 2 3 [] m_law_bent_line) (F_law_one_of : Fd G "_law_one_of" 2 2 [] m_law_one_of) (F_law_pick : Fd G "_law_pick" 2 1 [] m_law_pick) (E : XK) : DSs G (defCt N_law_bent_lines (defScope s_law_bent_lines)) 3 (fun _ => E) (defBody s_law_bent_lines) b_law_bent_lines := by
  have S := sc_law_bent_lines
  exact (dss_cons (ds_set (i := 2) rfl (by first | exact Or.inl rfl | exact Or.inr ⟨rfl, rfl⟩) S.nd (de_call F_law_pick (by first | decide | omega) rfl (da_cons (de_var 0) (da_cons (de_op do_add (de_blt db_len B.len_ rfl (by decide +kernel) (da_cons (de_var 1) da_nil)) de_int) da_nil)) (.cons (.cons .nil)))) (dss_cons (ds_set (i := 3) rfl (by first | exact Or.inl rfl | exact Or.inr ⟨rfl, rfl⟩) S.nd (de_call F_law_pick (by first | decide | omega) rfl (da_cons (de_var 0) (da_cons de_int da_nil)) (.cons (.cons .nil)))) (dss_cons (ds_if (dt_cmp do_eq (de_var 3) de_int) (dss_cons (ds_set (i := 4) rfl (by first | exact Or.inl rfl | exact Or.inr ⟨rfl, rfl⟩) S.nd (de_lst (da_cons de_str (da_cons de_str (da_cons de_str (da_cons de_str (da_cons de_str (da_cons de_str (da_cons de_str (da_cons de_str (da_cons de_str (da_cons de_str da_nil)))))))))))) (dss_cons (ds_set (i := 4) rfl (by first | exact Or.inl rfl | exact Or.inr ⟨rfl, rfl⟩) S.nd (de_op do_add (de_op do_add (de_var 4) (de_lst (da_cons de_non (da_cons de_int (da_cons de_bl (da_cons (de_tup (da_cons de_str (da_cons de_str da_nil))) (da_cons (de_lst (da_cons de_str da_nil)) da_nil))))))) (de_var 1))) (dss_one (ds_ret (de_op do_add (de_op do_add (de_slice (de_var 1) dp_n (dp_s (de_var 2))) (de_lst (da_cons (de_call F_law_one_of (by first | decide | omega) rfl (da_cons (de_var 0) (da_cons (de_var 4) da_nil)) (.cons (.cons .nil))) da_nil))) (de_slice (de_var 1) (dp_s (de_var 2)) dp_n)))))) dss_nil) (dss_cons (ds_if (dt_cmp do_eq (de_var 3) de_int) (dss_one (ds_ret (de_op do_add (de_slice (de_var 1) dp_n (dp_s (de_var 2))) (de_slice (de_var 1) (dp_s (de_op do_add (de_var 2) de_int)) dp_n)))) dss_nil) (dss_cons (ds_if (dt_cmp do_eq (de_var 3) de_int) (dss_one (ds_ret (de_slice (de_op do_add (de_var 1) (de_op do_mul2 (de_lst (da_cons de_str da_nil)) de_int)) dp_n (dp_s de_int)))) dss_nil) (dss_cons (ds_if (dt_cmp do_eq (de_var 3) de_int) (dss_one (ds_ret (de_slice (de_var 1) dp_n (dp_s (de_var 2))))) dss_nil) (dss_cons (ds_if (dt_of (dw_or (dt_cmp do_eq (de_var 2) (de_blt db_len B.len_ rfl (by decide +kernel) (da_cons (de_var 1) da_nil))) (dw_or1 (dt_not (dt_val (de_isi1 KF B.isinstance_ rfl (de_ix (de_var 1) (de_var 2)) (de_tyName B.str_ rfl (by decide +kernel)))))))) (dss_one (ds_ret (de_var 1))) dss_nil) (dss_one (ds_ret (de_op do_add (de_op do_add (de_slice (de_var 1) dp_n (dp_s (de_var 2))) (de_lst (da_cons (de_call F_law_bent_line (by first | decide | omega) rfl (da_cons (de_var 0) (da_cons (de_ix (de_var 1) (de_var 2)) da_nil)) (.cons (.cons .nil))) da_nil))) (de_slice (de_var 1) (dp_s (de_op do_add (de_var 2) de_int)) dp_n)))))))))))
theorem d_read_chapter (MD_LineReader_rest : MtD G 0 "rest" 3 4 [.non] m_LineReader_rest) (M_LineReader_take : Mt G 0 "take" 1 4 m_LineReader_take) (F_pick_of : Fd G "pick_of" 1 1 [] m_pick_of) (E : XK) : DSs G (defCt N_read_chapter (defScope s_read_chapter)) 4 (fun _ => E) (defBody s_read_chapter) b_read_chapter := by
  have S := sc_read_chapter
  exact (dss_cons (ds_expr (de_meth KF (by decide) M_LineReader_take (by first | decide | omega) (de_var 0) (da_cons de_str da_nil) (.cons .nil))) (dss_one (ds_ret (de_ty db_tuple B.tuple_ rfl (by decide +kernel) (da_cons (de_lc (own := [(("text" : Str), 1)]) (vs := [1]) S.nd rfl (di_any (de_methD KF (by decide) MD_LineReader_rest (by first | decide | omega) (de_var 0) (da_cons (de_clsName (j := 5) B.c_is_pick_text rfl) (da_cons de_int da_nil)) (.cons (.cons .nil)) (by decide))) (by decide +kernel) (dg_name (i := 1) rfl (by first | exact Or.inl rfl | exact Or.inr ⟨rfl, rfl⟩) S.nd (by decide)) dts_nil (de_call F_pick_of (by first | decide | omega) rfl (da_cons (de_var 1) da_nil) (.cons .nil))) da_nil)))))
theorem d_read_reading (K_LineReader : Km G "LineReader" 0 1 1 m_LineReader_init) (F_read_chapter : Fd G "read_chapter" 1 5 [] m_read_chapter) (E : XK) : DSs G (defCt N_read_reading (defScope s_read_reading)) 5 (fun _ => E) (defBody s_read_reading) b_read_reading := by
  have S := sc_read_reading
  exact (dss_one (ds_ret (de_call F_read_chapter (by first | decide | omega) rfl (da_cons (de_make K_LineReader (by first | decide | omega) rfl (da_cons (de_tup (da_cons (de_var 0) da_nil)) da_nil) (.cons .nil)) da_nil) (.cons .nil))))
theorem d_read_work (C_MOST_CHAPTERS : Kc G "MOST_CHAPTERS" (.int 6)) (K_LineReader : Km G "LineReader" 0 1 1 m_LineReader_init) (M_LineReader_head : Mt G 0 "head" 0 3 m_LineReader_head) (M_LineReader_past : Mt G 0 "past" 0 4 m_LineReader_past) (F_read_chapter : Fd G "read_chapter" 1 5 [] m_read_chapter) (E : XK) : DSs G (defCt N_read_work (defScope s_read_work)) 5 (fun _ => E) (defBody s_read_work) b_read_work := by
  have S := sc_read_work
  exact (dss_cons (ds_set (i := 1) rfl (by first | exact Or.inl rfl | exact Or.inr ⟨rfl, rfl⟩) S.nd (de_make K_LineReader (by first | decide | omega) rfl (da_cons (de_var 0) da_nil) (.cons .nil))) (dss_cons (ds_set (i := 2) rfl (by first | exact Or.inl rfl | exact Or.inr ⟨rfl, rfl⟩) S.nd (de_lstM (da_cons (de_call F_read_chapter (by first | decide | omega) rfl (da_cons (de_var 1) da_nil) (.cons .nil)) da_nil))) (dss_cons (ds_while (dt_of (dw_and (dt_cmp do_lt (de_blt db_len B.len_ rfl (by decide +kernel) (da_cons (de_var 2) da_nil)) (de_con C_MOST_CHAPTERS rfl)) (dw_and1 (dt_notN (de_meth0 KF (by decide) M_LineReader_head (by first | decide | omega) (de_var 1)))))) (dss_one (ds_expr (de_append (de_var 2) (da_cons (de_call F_read_chapter (by first | decide | omega) rfl (da_cons (de_var 1) da_nil) (.cons .nil)) da_nil))))) (dss_cons (ds_expr (de_meth0 KF (by decide) M_LineReader_past (by first | decide | omega) (de_var 1))) (dss_one (ds_ret (de_ty db_tuple B.tuple_ rfl (by decide +kernel) (da_cons (de_var 2) da_nil))))))))
theorem d_law_lists {rec : List D → Store → Res D} {j k : Nat} (REC : Fd G "_law_lists" 1 j [] rec) (hj : j ≤ k) (hk : 0 ≤ k) (E : XK) : DSs G (defCt N_law_lists (defScope s_law_lists)) k (fun _ => E) (defBody s_law_lists) (b_law_lists rec) := by
  have S := sc_law_lists
  exact (dss_one (ds_ret (de_if (dt_val (de_isi1 KF B.isinstance_ rfl (de_var 0) (de_tyName B.tuple_ rfl (by decide +kernel)))) (de_lc (own := [(("_law_part" : Str), 1)]) (vs := [1]) S.nd rfl (di_any (de_var 0)) (by decide +kernel) (dg_name (i := 1) rfl (by first | exact Or.inl rfl | exact Or.inr ⟨rfl, rfl⟩) S.nd (by decide)) dts_nil (de_call REC (by omega) rfl (da_cons (de_var 1) da_nil) (.cons .nil))) (de_var 0))))
theorem d_law_same {rec : List D → Store → Res D} {j k : Nat} (REC : Fd G "_law_same" 2 j [] rec) (hj : j ≤ k) (hk : 0 ≤ k) (E : XK) : DSs G (defCt N_law_same (defScope s_law_same)) k (fun _ => E) (defBody s_law_same) (b_law_same rec) := by
  have S := sc_law_same
  exact (dss_cons (ds_if (dt_isN (de_var 1)) (dss_one (ds_ret (de_isN (de_var 0)))) dss_nil) (dss_cons (ds_if (dt_val (de_isi1 KF B.isinstance_ rfl (de_var 1) (de_tyName B.bool_ rfl (by decide +kernel)))) (dss_one (ds_ret (de_and (de_isi1 KF B.isinstance_ rfl (de_var 0) (de_tyName B.bool_ rfl (by decide +kernel))) (de_one (de_cmp do_eq (de_var 0) (de_var 1)))))) dss_nil) (dss_cons (ds_if (dt_val (de_isi1 KF B.isinstance_ rfl (de_var 1) (de_tyName B.tuple_ rfl (by decide +kernel)))) (dss_cons (ds_if (dt_of (dw_or (dt_not (dt_val (de_isi1 KF B.isinstance_ rfl (de_var 0) (de_tyName B.tuple_ rfl (by decide +kernel))))) (dw_or1 (dt_cmp do_ne (de_blt db_len B.len_ rfl (by decide +kernel) (da_cons (de_var 0) da_nil)) (de_blt db_len B.len_ rfl (by decide +kernel) (da_cons (de_var 1) da_nil)))))) (dss_one (ds_ret de_bl)) dss_nil) (dss_one (ds_ret (de_blt db_all B.all_ rfl (by decide +kernel) (da_cons (de_lc (own := [(("_law_k" : Str), 2)]) (vs := [2]) S.nd rfl (di_rng1 B.range_ rfl (da_cons (de_blt db_len B.len_ rfl (by decide +kernel) (da_cons (de_var 1) da_nil)) da_nil)) (by decide +kernel) (dg_name (i := 2) rfl (by first | exact Or.inl rfl | exact Or.inr ⟨rfl, rfl⟩) S.nd (by decide)) dts_nil (de_call REC (by omega) rfl (da_cons (de_ix (de_var 0) (de_var 2)) (da_cons (de_ix (de_var 1) (de_var 2)) da_nil)) (.cons (.cons .nil)))) da_nil))))) dss_nil) (dss_cons (ds_if (dt_val (de_isi1 KF B.isinstance_ rfl (de_var 1) (de_tyName B.int_ rfl (by decide +kernel)))) (dss_one (ds_ret (de_and (de_isi1 KF B.isinstance_ rfl (de_var 0) (de_tyName B.int_ rfl (by decide +kernel))) (de_and (de_not (de_isi1 KF B.isinstance_ rfl (de_var 0) (de_tyName B.bool_ rfl (by decide +kernel)))) (de_one (de_cmp do_eq (de_var 0) (de_var 1))))))) dss_nil) (dss_one (ds_ret (de_and (de_isi1 KF B.isinstance_ rfl (de_var 0) (de_tyName B.str_ rfl (by decide +kernel))) (de_one (de_cmp do_eq (de_var 0) (de_var 1))))))))))
theorem d_law_asked_work (FX_law_error : Fx G "_law_error" 1 m_law_error) (F_law_same : Fd G "_law_same" 2 21 [] (m_law_same 20)) (F_read_work : Fd G "read_work" 1 6 [] m_read_work) (E : XK) : DSs G (defCt N_law_asked_work (defScope s_law_asked_work)) 21 (fun _ => E) (defBody s_law_asked_work) b_law_asked_work := by
  have S := sc_law_asked_work
  exact (dss_cons (ds_try (i := 2) EX rfl rfl rfl S.nd rfl B.c_AcrossError (by decide) (by decide) (fun _ => (dss_one (ds_set (i := 3) rfl (by first | exact Or.inl rfl | exact Or.inr ⟨rfl, rfl⟩) S.nd (de_tup (da_cons de_str (da_cons (de_call F_read_work (by first | decide | omega) rfl (da_cons (de_var 0) da_nil) (.cons .nil)) da_nil)))))) (hss_one (hs_set (j := 3) (by decide) rfl (by first | exact Or.inl rfl | exact Or.inr ⟨rfl, rfl⟩) S.nd (he_callX FX_law_error (by first | decide | omega) rfl rfl)))) (dss_one (ds_ret (de_call F_law_same (by first | decide | omega) rfl (da_cons (de_var 3) (da_cons (de_var 1) da_nil)) (.cons (.cons .nil))))))
theorem d_law_asked_line (FX_law_error : Fx G "_law_error" 1 m_law_error) (F_law_read : Fd G "_law_read" 1 3 [] m_law_read) (F_law_same : Fd G "_law_same" 2 21 [] (m_law_same 20)) (F_read_reading : Fd G "read_reading" 1 6 [] m_read_reading) (E : XK) : DSs G (defCt N_law_asked_line (defScope s_law_asked_line)) 21 (fun _ => E) (defBody s_law_asked_line) b_law_asked_line := by
  have S := sc_law_asked_line
  exact (dss_cons (ds_set (i := 1) rfl (by first | exact Or.inl rfl | exact Or.inr ⟨rfl, rfl⟩) S.nd (de_call F_law_read (by first | decide | omega) rfl (da_cons (de_lst (da_cons (de_var 0) da_nil)) da_nil) (.cons .nil))) (dss_cons (ds_if (dt_cmp do_eq (de_ix (de_var 1) de_int) de_str) (dss_one (ds_set (i := 1) rfl (by first | exact Or.inl rfl | exact Or.inr ⟨rfl, rfl⟩) S.nd (de_tup (da_cons de_str (da_cons (de_ix (de_ix (de_var 1) de_int) de_int) da_nil))))) dss_nil) (dss_cons (ds_try (i := 2) EX rfl rfl rfl S.nd rfl B.c_AcrossError (by decide) (by decide) (fun _ => (dss_one (ds_set (i := 3) rfl (by first | exact Or.inl rfl | exact Or.inr ⟨rfl, rfl⟩) S.nd (de_tup (da_cons de_str (da_cons (de_call F_read_reading (by first | decide | omega) rfl (da_cons (de_var 0) da_nil) (.cons .nil)) da_nil)))))) (hss_one (hs_set (j := 3) (by decide) rfl (by first | exact Or.inl rfl | exact Or.inr ⟨rfl, rfl⟩) S.nd (he_callX FX_law_error (by first | decide | omega) rfl rfl)))) (dss_one (ds_ret (de_call F_law_same (by first | decide | omega) rfl (da_cons (de_var 3) (da_cons (de_var 1) da_nil)) (.cons (.cons .nil))))))))
theorem d_law_there_and_back (F_law_asked_work : Fd G "_law_asked_work" 2 22 [] m_law_asked_work) (F_law_lists : Fd G "_law_lists" 1 21 [] (m_law_lists 20)) (F_law_reading_line : Fd G "_law_reading_line" 1 1 [] m_law_reading_line) (F_law_same : Fd G "_law_same" 2 21 [] (m_law_same 20)) (F_read_reading : Fd G "read_reading" 1 6 [] m_read_reading) (F_write_reading : Fd G "write_reading" 1 1 [] m_write_reading) (F_write_work : Fd G "write_work" 1 2 [] m_write_work) (E : XK) : DSs G (defCt N_law_there_and_back (defScope s_law_there_and_back)) 22 (fun _ => E) (defBody s_law_there_and_back) b_law_there_and_back := by
  have S := sc_law_there_and_back
  exact (dss_cons (ds_setLc (i := 2) (own := [(("_law_chapter" : Str), 5)]) (vs := [5]) S.nd rfl rfl rfl rfl (by decide +kernel) rfl (di_any (de_var 0)) (by decide +kernel) (dg_name (i := 5) rfl (by first | exact Or.inl rfl | exact Or.inr ⟨rfl, rfl⟩) S.nd (by decide)) dts_nil (de_call F_law_reading_line (by first | decide | omega) rfl (da_cons (de_var 5) da_nil) (.cons .nil)) (Or.inl rfl)) (dss_cons (ds_set (i := 3) rfl (by first | exact Or.inl rfl | exact Or.inr ⟨rfl, rfl⟩) S.nd (de_if (dt_cmp do_eq (de_var 1) de_int) (de_call F_law_lists (by first | decide | omega) rfl (da_cons (de_var 0) da_nil) (.cons .nil)) (de_var 0))) (dss_cons (ds_if (dt_not (dt_val (de_call F_law_same (by first | decide | omega) rfl (da_cons (de_call F_write_work (by first | decide | omega) rfl (da_cons (de_var 3) da_nil) (.cons .nil)) (da_cons (de_ty db_tuple B.tuple_ rfl (by decide +kernel) (da_cons (de_var 2) da_nil)) da_nil)) (.cons (.cons .nil))))) (dss_one (ds_ret de_bl)) dss_nil) (dss_cons (ds_for (vs := [4]) (di_rng1 B.range_ rfl (da_cons (de_blt db_len B.len_ rfl (by decide +kernel) (da_cons (de_var 0) da_nil)) da_nil)) (dg_name (i := 4) rfl (by first | exact Or.inl rfl | exact Or.inr ⟨rfl, rfl⟩) S.nd (by decide)) (dss_cons (ds_if (dt_not (dt_val (de_call F_law_same (by first | decide | omega) rfl (da_cons (de_call F_write_reading (by first | decide | omega) rfl (da_cons (de_ix (de_var 3) (de_var 4)) da_nil) (.cons .nil)) (da_cons (de_ix (de_var 2) (de_var 4)) da_nil)) (.cons (.cons .nil))))) (dss_one (ds_ret de_bl)) dss_nil) (dss_one (ds_if (dt_not (dt_val (de_call F_law_same (by first | decide | omega) rfl (da_cons (de_call F_read_reading (by first | decide | omega) rfl (da_cons (de_ix (de_var 2) (de_var 4)) da_nil) (.cons .nil)) (da_cons (de_ix (de_var 0) (de_var 4)) da_nil)) (.cons (.cons .nil))))) (dss_one (ds_ret de_bl)) dss_nil)))) (dss_cons (ds_if (dt_not (dt_val (de_call F_law_asked_work (by first | decide | omega) rfl (da_cons (de_if (dt_cmp do_eq (de_var 1) de_int) (de_ty db_tuple B.tuple_ rfl (by decide +kernel) (da_cons (de_var 2) da_nil)) (de_var 2)) (da_cons (de_tup (da_cons de_str (da_cons (de_var 0) da_nil))) da_nil)) (.cons (.cons .nil))))) (dss_one (ds_ret de_bl)) dss_nil) (dss_one (ds_ret (de_or (de_not (de_cmp do_eq (de_var 1) de_int)) (de_one (de_cmp do_eq (de_var 3) (de_call F_law_lists (by first | decide | omega) rfl (da_cons (de_var 0) da_nil) (.cons .nil))))))))))))
theorem d_law_round (F_law_asked_line : Fd G "_law_asked_line" 1 22 [] m_law_asked_line) (F_law_asked_work : Fd G "_law_asked_work" 2 22 [] m_law_asked_work) (F_law_bent_lines : Fd G "_law_bent_lines" 2 4 [] m_law_bent_lines) (F_law_next : Fd G "_law_next" 1 1 [] m_law_next) (F_law_one_of : Fd G "_law_one_of" 2 2 [] m_law_one_of) (F_law_pick : Fd G "_law_pick" 2 1 [] m_law_pick) (F_law_read : Fd G "_law_read" 1 3 [] m_law_read) (F_law_reading_line : Fd G "_law_reading_line" 1 1 [] m_law_reading_line) (F_law_there_and_back : Fd G "_law_there_and_back" 2 23 [] m_law_there_and_back) (F_law_wide_reading : Fd G "_law_wide_reading" 2 3 [] m_law_wide_reading) (F_law_words : Fd G "_law_words" 4 3 [] m_law_words) (E : XK) : DSs G (defCt N_law_round (defScope s_law_round)) 23 (fun _ => E) (defBody s_law_round) b_law_round := by
  have S := sc_law_round
  exact (dss_cons (ds_expr (de_call F_law_next (by first | decide | omega) rfl (da_cons (de_var 0) da_nil) (.cons .nil))) (dss_cons (ds_set (i := 2) rfl (by first | exact Or.inl rfl | exact Or.inr ⟨rfl, rfl⟩) S.nd (de_call F_law_words (by first | decide | omega) rfl (da_cons (de_var 0) (da_cons de_int (da_cons de_int (da_cons (de_lst da_nil) da_nil)))) (.cons (.cons (.cons (.cons .nil)))))) (dss_cons (ds_set (i := 3) rfl (by first | exact Or.inl rfl | exact Or.inr ⟨rfl, rfl⟩) S.nd (de_op do_add de_int (de_call F_law_pick (by first | decide | omega) rfl (da_cons (de_var 0) (da_cons de_int da_nil)) (.cons (.cons .nil))))) (dss_cons (ds_set (i := 4) rfl (by first | exact Or.inl rfl | exact Or.inr ⟨rfl, rfl⟩) S.nd (de_ty db_tuple B.tuple_ rfl (by decide +kernel) (da_cons (de_lc (own := [(("_law_k" : Str), 8)]) (vs := [8]) S.nd rfl (di_rng1 B.range_ rfl (da_cons (de_var 3) da_nil)) (by decide +kernel) (dg_name (i := 8) rfl (by first | exact Or.inl rfl | exact Or.inr ⟨rfl, rfl⟩) S.nd (by decide)) dts_nil (de_call F_law_wide_reading (by first | decide | omega) rfl (da_cons (de_var 0) (da_cons (de_var 2) da_nil)) (.cons (.cons .nil)))) da_nil))) (dss_cons (ds_if (dt_not (dt_val (de_call F_law_there_and_back (by first | decide | omega) rfl (da_cons (de_var 4) (da_cons (de_var 1) da_nil)) (.cons (.cons .nil))))) (dss_one (ds_ret de_bl)) dss_nil) (dss_cons (ds_setLc (i := 5) (own := [(("_law_chapter" : Str), 11)]) (vs := [11]) S.nd rfl rfl rfl rfl (by decide +kernel) rfl (di_any (de_var 4)) (by decide +kernel) (dg_name (i := 11) rfl (by first | exact Or.inl rfl | exact Or.inr ⟨rfl, rfl⟩) S.nd (by decide)) dts_nil (de_call F_law_reading_line (by first | decide | omega) rfl (da_cons (de_var 11) da_nil) (.cons .nil)) (Or.inl rfl)) (dss_cons (ds_for (vs := [6]) (di_rng1 B.range_ rfl (da_cons de_int da_nil)) (dg_name (i := 6) rfl (by first | exact Or.inl rfl | exact Or.inr ⟨rfl, rfl⟩) S.nd (by decide)) (dss_cons (ds_expr (de_call F_law_next (by first | decide | omega) rfl (da_cons (de_var 0) da_nil) (.cons .nil))) (dss_cons (ds_set (i := 7) rfl (by first | exact Or.inl rfl | exact Or.inr ⟨rfl, rfl⟩) S.nd (de_ty db_list B.list_ rfl (by decide +kernel) (da_cons (de_var 5) da_nil))) (dss_cons (ds_for (vs := [8]) (di_rng1 B.range_ rfl (da_cons (de_op do_add de_int (de_call F_law_pick (by first | decide | omega) rfl (da_cons (de_var 0) (da_cons de_int da_nil)) (.cons (.cons .nil)))) da_nil)) (dg_name (i := 8) rfl (by first | exact Or.inl rfl | exact Or.inr ⟨rfl, rfl⟩) S.nd (by decide)) (dss_one (ds_set (i := 7) rfl (by first | exact Or.inl rfl | exact Or.inr ⟨rfl, rfl⟩) S.nd (de_call F_law_bent_lines (by first | decide | omega) rfl (da_cons (de_var 0) (da_cons (de_var 7) da_nil)) (.cons (.cons .nil)))))) (dss_cons (ds_set (i := 9) rfl (by first | exact Or.inl rfl | exact Or.inr ⟨rfl, rfl⟩) S.nd (de_ty db_list B.list_ rfl (by decide +kernel) (da_cons (de_var 7) da_nil))) (dss_cons (ds_set (i := 10) rfl (by first | exact Or.inl rfl | exact Or.inr ⟨rfl, rfl⟩) S.nd (de_call F_law_read (by first | decide | omega) rfl (da_cons (de_var 7) da_nil) (.cons .nil))) (dss_cons (ds_if (dt_of (dw_or (dt_not (dt_val (de_call F_law_asked_work (by first | decide | omega) rfl (da_cons (de_if (dt_cmp do_eq (de_var 1) de_int) (de_var 9) (de_ty db_tuple B.tuple_ rfl (by decide +kernel) (da_cons (de_var 9) da_nil))) (da_cons (de_var 10) da_nil)) (.cons (.cons .nil))))) (dw_or1 (dt_not (dt_cmp do_eq (de_var 9) (de_var 7)))))) (dss_one (ds_ret de_bl)) dss_nil) (dss_one (ds_if (dt_of (dw_and (dt_tru (de_var 7)) (dw_and1 (dt_not (dt_val (de_call F_law_asked_line (by first | decide | omega) rfl (da_cons (de_call F_law_one_of (by first | decide | omega) rfl (da_cons (de_var 0) (da_cons (de_var 7) da_nil)) (.cons (.cons .nil))) da_nil) (.cons .nil))))))) (dss_one (ds_ret de_bl)) dss_nil))))))))) (dss_one (ds_ret (de_call F_law_there_and_back (by first | decide | omega) rfl (da_cons (de_var 4) (da_cons (de_op do_sub de_int (de_var 1)) da_nil)) (.cons (.cons .nil))))))))))))
theorem d_law (F_law_round : Fd G "_law_round" 2 24 [] m_law_round) (F_law_source : Fd G "_law_source" 2 1 [] m_law_source) (E : XK) : DSs G (defCt N_law (defScope s_law)) 24 (fun _ => E) (defBody s_law) b_law := by
  have S := sc_law
  exact (dss_cons (ds_set (i := 1) rfl (by first | exact Or.inl rfl | exact Or.inr ⟨rfl, rfl⟩) S.nd (de_call F_law_source (by first | decide | omega) rfl (da_cons (de_var 0) (da_cons de_int da_nil)) (.cons (.cons .nil)))) (dss_one (ds_ret (de_and (de_call F_law_round (by first | decide | omega) rfl (da_cons (de_var 1) (da_cons de_int da_nil)) (.cons (.cons .nil))) (de_and (de_call F_law_round (by first | decide | omega) rfl (da_cons (de_var 1) (da_cons de_int da_nil)) (.cons (.cons .nil))) (de_one (de_call F_law_round (by first | decide | omega) rfl (da_cons (de_var 1) (da_cons de_int da_nil)) (.cons (.cons .nil)))))))))
end Law
end
section
set_option Elab.async false
set_option linter.all false
set_option maxRecDepth 100000
set_option maxHeartbeats 2000000
namespace DL
open PySem L2

/-! ### the head: what the top leaves, looked at by names -/
abbrev Frg := PySem.W.Frag
/-- what is reached from the module's names and the statics in n steps -/
def reach (g : Addr → Option Obj) : Nat → List Addr
  | 0 => [mainGlobals, cStatics]
  | n + 1 => He.growD g (reach g n)
section
variable (K : Frg)
/-- the addresses of own classes and of defs that are values -/
def adrs (cn : List Str) (c : Nat) : Addr := He.ga K (cn.getD c Str.empty)
def plainB (C : Addr) : Bool := (PySem.W.plainGet K C Str.empty && PySem.W.hasDictIn K C) && (PySem.W.plainOver K C && He.eqO (PySem.W.findIn K (.ref C) "__setattr__") (some (some (.builtin "object.__setattr__"))))
def typB (C : Addr) : Bool := He.eqO (PySem.W.findIn K (.ref C) "__class__") (some (some (.builtin "object.__class__"))) && decide (PySem.W.mroIn K C (.type "object") = some true)
def metaB : Bool := He.eqO (PySem.W.specialIn K (.builtin "object.__class__") "__get__") (some (some (.builtin "getset_descriptor.__get__"))) && decide (PySem.W.takesIn K (.builtin "object.__class__") = some true)
def kfB (C : Nat → Addr) (n : Nat) (J : Nat → Nat → Bool) : Bool :=
  metaB K && (List.range n).all fun a => ((plainB K (C a) && typB K (C a)) && ((List.range n).all fun b => decide (PySem.W.kitOne K (.ref (C a)) (.ref (C b)) = some (J a b)))) &&
    tyNames.all fun t => decide (PySem.W.kitOne K (.type t) (.ref (C a)) = some false) && decide (PySem.W.kitOne K (.ref (C a)) (.type t) = some false)
def noaB (C : Nat → Addr) (n : Nat) (L : Nat → List Str) : Bool := (List.range n).all fun c => (L c).all fun f => He.eqO (PySem.W.findIn K (.ref (C c)) f) (some none)
def excB (C : Addr) : Bool := ((He.eqO (PySem.W.findIn K (.ref C) "__getattribute__") (some (some (.builtin "BaseException.__getattribute__"))) && He.eqO (PySem.W.findIn K (.ref C) "__getattr__") (some none)) &&
  (decide (PySem.W.subIn K (.ref C) (.type "BaseException") = some true) && PySem.W.hasDictIn K C)) && typB K C
def efB (C : Nat → Addr) (n N : Nat) (S : Nat → Nat → Bool) (L : List Str) : Bool :=
  metaB K && (List.range N).all fun a => decide (a < n) || ((excB K (C a) && (L.all fun f => He.eqO (PySem.W.findIn K (.ref (C a)) f) (some none))) && (decide (PySem.W.kitOne K (.ref (C a)) (.type "ValueError") = some true) &&
    (List.range N).all fun b => decide (b < n) || (decide (PySem.W.kitOne K (.ref (C a)) (.ref (C b)) = some (S a b)) && decide (PySem.W.exmOne K (.ref (C a)) (.ref (C b)) = some (S a b)))))
/-- an exception's class: its line of bases ends in ValueError's -/
def slotB : List (Option Value) → Bool
  | [_, _, _, _, some (.builtin n), _] => decide (n = "ValueError.__new__")
  | _ => false
def lineB (C : Addr) : List Value → Bool
  | .ref D :: bm => decide (D = C) && PySem.HandSPX.refsVE bm
  | _ => false
def clsB (C : Addr) : Option Obj → Bool
  | some ⟨.type t, _, .cls cd, sl⟩ => (decide (t = "type") && (cd.hasDict && !cd.hasDel)) && (lineB C cd.mro && slotB sl.toList)
  | _ => false
def oexB (C : Addr) : Bool := (clsB C (K.lookup C) && He.eqO (PySem.W.findIn K (.ref C) "__setattr__") (some (some (.builtin "object.__setattr__")))) &&
  ((decide (PySem.W.subIn K (.ref C) (.type "BaseException") = some true) && decide (PySem.W.typeIn K (.ref C) = some (.type "type"))) && PySem.W.keepIn K (.ref C))
/-- a code object's file, a cell's class -/
def nameB (file : Str) : List Value → Bool
  | _ :: _ :: .str f _ :: _ => file == f
  | _ => false
def fileB (file : Str) : Option Obj → Bool
  | some ⟨_, _, .fields vs, _⟩ => nameB file (vs.toList)
  | _ => false
def cellB (C : Addr) : Option Obj → Bool
  | some ⟨_, _, .cell (some (.ref D)), _⟩ => decide (D = C)
  | _ => false
/-- the def of an __init__ that calls super() -/
def supB (C : Addr) (file qual : Str) : Option Obj → Bool
  | some ⟨_, _, .func fd, _⟩ => (match fd.code, fd.closure with
    | .ref cda, [(_, cc)] => (PySem.W.codeIn K (.ref cda) qual && fileB file (K.lookup cda)) && cellB C (K.lookup cc)
    | _, _ => false)
  | _ => false
def xinB (C : Addr) (file qual : Str) (fs : List Str) : Bool := ((oexB K C && (He.eqO (PySem.W.findIn K (.ref C) "__init__") (some (some (.ref (He.ma K C "__init__")))) && decide (PySem.W.typeIn K (.ref (He.ma K C "__init__")) = some (.type "function")))) &&
  (supB K C file qual (K.lookup (He.ma K C "__init__")) && (decide (PySem.W.mroIn K C (.ref C) = some true) && decide (PySem.W.subIn K (.ref C) (.type "ValueError") = some true)))) &&
  ((He.eqO (PySem.W.ks_superIn K C C "__init__") (some (some (.builtin "ValueError.__init__"))) && (He.eqO (PySem.W.nsIn K cStatics "thirdparty.any") (some none) && He.eqO (PySem.W.nsIn K mainGlobals "super") (some none))) &&
    fs.all fun f => He.eqO (PySem.W.findIn K (.ref C) f) (some none))
end
section
variable {K : Frg}
theorem andB {a b : Bool} (h : (a && b) = true) : a = true ∧ b = true := Bool.and_eq_true_iff.mp h
theorem plainB_ok {C : Addr} (h : plainB K C = true) : Cls K C := by
  obtain ⟨h1, h2⟩ := andB h
  obtain ⟨h3, h4⟩ := andB h1
  obtain ⟨h5, h6⟩ := andB h2
  exact ⟨h3, h4, h5, He.eqO_ok h6⟩
theorem kfB_ok {G : Gd} {n : Nat} {J : Nat → Nat → Bool} (h : kfB G.K G.C n J = true) : Kf G n J := by
  obtain ⟨hm, h⟩ := andB h
  obtain ⟨m1, m2⟩ := andB hm
  have one : ∀ c, c < n → _ := fun c hc => List.all_eq_true.mp h c (List.mem_range.mpr hc)
  refine ⟨fun c hc => ?_, fun c hc => ?_, He.eqO_ok m1, of_decide_eq_true m2, fun c hc => ?_, fun a b ha hb => ?_, fun b hb t ht => ?_, fun a ha t ht => ?_⟩
  · exact plainB_ok (andB (andB (andB (one c hc)).1).1).1
  · exact He.eqO_ok (andB (andB (andB (andB (one c hc)).1).1).2).1
  · exact of_decide_eq_true (andB (andB (andB (andB (one c hc)).1).1).2).2
  · exact of_decide_eq_true (List.all_eq_true.mp (andB (andB (one a ha)).1).2 b (List.mem_range.mpr hb))
  · exact of_decide_eq_true (andB (List.all_eq_true.mp (andB (one b hb)).2 t ht)).1
  · exact of_decide_eq_true (andB (List.all_eq_true.mp (andB (one a ha)).2 t ht)).2
theorem noaB_ok {G : Gd} {n : Nat} {L : Nat → List Str} (h : noaB G.K G.C n L = true) : NoA G n fun c f => (L c).contains f :=
  ⟨fun c f hc hf => He.eqO_ok (List.all_eq_true.mp (List.all_eq_true.mp h c (List.mem_range.mpr hc)) f (by simpa using hf))⟩
theorem efB_ok {G : Gd} {n N : Nat} {S : Nat → Nat → Bool} {L : List Str} (h : efB G.K G.C n N S L = true) : Ef G n N S L := by
  obtain ⟨hm, h⟩ := andB h
  obtain ⟨m1, m2⟩ := andB hm
  have or2 : ∀ {a n : Nat} {b : Bool}, n ≤ a → (decide (a < n) || b) = true → b = true := fun {a n b} hn hb => by
    rw [decide_eq_false (by omega), Bool.false_or] at hb; exact hb
  have one : ∀ c, n ≤ c → c < N → _ := fun c hn hc => or2 hn (List.all_eq_true.mp h c (List.mem_range.mpr hc))
  refine ⟨fun c hn hc => ?_, fun c hn hc f hf => ?_, fun a b ha ha2 hb hb2 => ?_, fun a ha ha2 => ?_, fun a b ha ha2 hb hb2 => ?_⟩
  · obtain ⟨e1, e2⟩ := andB (andB (andB (one c hn hc)).1).1
    obtain ⟨e3, e4⟩ := andB e1
    obtain ⟨e5, e6⟩ := andB e3
    obtain ⟨e7, e8⟩ := andB e4
    obtain ⟨e9, e10⟩ := andB e2
    exact ⟨He.eqO_ok e5, He.eqO_ok e6, of_decide_eq_true e7, e8, He.eqO_ok e9, He.eqO_ok m1, of_decide_eq_true m2, of_decide_eq_true e10⟩
  · exact He.eqO_ok (List.all_eq_true.mp (andB (andB (one c hn hc)).1).2 f hf)
  · exact of_decide_eq_true (andB (or2 hb (List.all_eq_true.mp (andB (andB (one a ha ha2)).2).2 b (List.mem_range.mpr hb2)))).1
  · exact of_decide_eq_true (andB (andB (one a ha ha2)).2).1
  · exact of_decide_eq_true (andB (or2 hb (List.all_eq_true.mp (andB (andB (one a ha ha2)).2).2 b (List.mem_range.mpr hb2)))).2
theorem oexB_ok {C : Addr} (h : oexB K C = true) : OexC K C := by
  obtain ⟨h1, h2⟩ := andB h
  obtain ⟨h3, h4⟩ := andB h1
  obtain ⟨h5, h6⟩ := andB h2
  obtain ⟨h7, h8⟩ := andB h5
  refine ⟨?_, He.eqO_ok h4, of_decide_eq_true h7, of_decide_eq_true h8, h6⟩
  unfold clsB at h3
  split at h3
  · rename_i t dd cd sl e
    obtain ⟨a1, a2⟩ := andB h3
    obtain ⟨a3, a4⟩ := andB a1
    obtain ⟨a5, a6⟩ := andB a4
    obtain ⟨a7, a8⟩ := andB a2
    obtain ⟨nm, bs, mro, ns, qn, hdct, sn, sub, ab, col, hdel⟩ := cd
    simp only [] at a5 a6 a7
    unfold lineB at a7
    split at a7
    · rename_i D bm
      obtain ⟨b1, b2⟩ := andB a7
      unfold slotB at a8
      split at a8
      · rename_i k0 k1 k2 k3 n k5 es
        obtain ⟨es⟩ : ∃ _ : Unit, sl = #[k0, k1, k2, k3, some (.builtin n), k5] := ⟨(), by rw [← es]⟩
        have e1 := of_decide_eq_true a3
        have e2 := of_decide_eq_true b1
        have e3 := of_decide_eq_true a8
        have e4 : hdel = false := by cases hdel with | true => cases a6 | false => rfl
        subst e1 e2 e3 e4 a5
        rename_i eq
        subst eq
        exact ⟨_, _, _, _, _, _, _, _, _, _, _, _, _, _, _, e, b2⟩
      · cases a8
    · cases a7
  · cases h3
end
end DL
end
section
set_option Elab.async false
set_option linter.all false
set_option maxRecDepth 100000
set_option maxHeartbeats 2000000
namespace DL
open PySem L2
open PySem.W (ksFn)

/-! ### the head: defs -/
/-- one def: where it stands (a global's name; a class and its method), its names, its statement, its defaults; whether it calls super() -/
structure Df where
  at_ : Str × Option Str
  name : Str
  qual : Str
  st : Stmt
  dvs : List V := []
  sup : Bool := false
abbrev FnSeen : Type := Option (Str × Str × Arguments × FuncBody × Scope × Addr × List Str × Addr)
def Df.seen (K : Frg) (d : Df) : FnSeen := match K.lookup (He.fAd K d.at_) with
  | some ⟨_, _, .func fd, _⟩ => some (fd.name, fd.qualname, fd.params, fd.body, fd.scope, fd.globals, fd.closure.map Prod.fst, fd.builtins)
  | _ => none
def Df.due (d : Df) : FnSeen := some (d.name, d.qual, defArgs d.st, .stmts (defBody d.st), defScope d.st, mainGlobals, if d.sup = true then [("__class__" : Str)] else [], builtinsNs)
def Df.chk (K : Frg) (d : Df) : Bool := PySem.W.keepIn K (.ref (He.fAd K d.at_)) && (match K.lookup (He.fAd K d.at_) with
  | some ⟨_, _, .func fd, _⟩ => PySem.W.codeIn K fd.code d.qual && He.dflB K fd.defaults d.dvs
  | _ => false)
theorem Df.funD {K : Frg} {d : Df} (e : d.seen K = d.due) (c : d.chk K = true) (hs : d.sup = false) : ∃ fd, FunD K d.name d.qual (defArgs d.st) (defBody d.st) (defScope d.st) d.dvs [] (He.fAd K d.at_) fd := by
  obtain ⟨kp, c2⟩ := andB c
  unfold Df.seen at e
  split at e
  · rename_i oc od fd osl q
    rw [q] at c2
    simp only [] at c2
    obtain ⟨c3, c4⟩ := andB c2
    obtain ⟨n1, n2, n3, n4, n5, n6, n7, n8, n9, n10, n11, n12, n13, n14, n15⟩ := fd
    unfold Df.due at e
    rw [hs] at e
    simp only [Option.some.injEq, Prod.mk.injEq, Bool.false_eq_true, if_false, List.map_eq_nil_iff] at e
    obtain ⟨h1, h2, h3, h4, h5, h6, h7, h8⟩ := e
    subst h1 h2 h3 h4 h5 h6 h7 h8
    exact ⟨_, ⟨_, _, n8, n9, n10, n11, n12, n13, n14, _, rfl, q, c3, He.dflB_ok c4, Or.inl rfl⟩, kp⟩
  · cases e
theorem Df.fun_ {K : Frg} {d : Df} (e : d.seen K = d.due) (c : d.chk K = true) (hs : d.sup = false) (hd : d.dvs = []) : ∃ fd, Fun K d.name d.qual d.st (He.fAd K d.at_) fd := by
  obtain ⟨fd, F⟩ := Df.funD e c hs
  rw [hd] at F
  obtain ⟨⟨oc, od, dV, kV, doc, pm, an, cdv, ct, osl, rfl, lk, hcd, hD, hK⟩, kp⟩ := F
  rcases hD with ⟨_, rfl⟩ | ⟨z, _⟩
  · exact ⟨_, ⟨oc, od, kV, doc, pm, an, cdv, ct, osl, rfl, lk, hcd⟩, kp⟩
  · exact absurd rfl z
/-- what the text of such an __init__ says -/
structure XTxt (params : Arguments) (scope : Scope) (sf : Str) (fs : List Str) : Prop where
  first : ∃ ar : Arg, (params.posonlyargs ++ params.args).head? = some ar ∧ ar.arg = sf
  kind : scope.kind = .function
  co : scope.isCoroutine = false
  gen : scope.isGenerator = false
  nocell : ∀ x ∈ scope.names, x.2 ≠ .cell
  ksup : scope.names.lookup ("super" : Str) = some .globalImplicit
  kcls : scope.names.lookup ("__class__" : Str) = some .free
  kself : scope.names.lookup sf = some .local
  kfs : ∀ f ∈ fs, scope.names.lookup f = some .local
  nd : (sf :: fs).Nodup
  dself : (sf == ("__debug__" : Str)) = false
theorem xin_ok {G : Gd} {c : Nat} {d : Df} {sf : Str} {fs : List Str} (h : xinB G.K (G.C c) G.P.main.file d.qual fs = true) (e : d.seen G.K = d.due) (hc : d.chk G.K = true) (hdv : d.dvs = []) (hs : d.sup = true) (ha : He.fAd G.K d.at_ = He.ma G.K (G.C c) "__init__")
    (ht : (G.P.main.scope.names.lookup ("super" : Str)).isSome = false) (hg : G.mg "super" = none) (X : XTxt (defArgs d.st) (defScope d.st) sf fs) :
    ∃ (cc cda : Addr) (oc : Value) (od : Option Addr) (kV doc pm : Value) (an : Option Addr) (ct : Value) (osl : Array (Option Value)),
      XFacts G.P G.K G.mg (G.C c) (He.ma G.K (G.C c) "__init__") cc cda d.qual (defArgs d.st) (defScope d.st) sf fs ∧
      G.K.lookup (He.ma G.K (G.C c) "__init__") = some ⟨oc, od, .func (ksFn d.name d.qual (defArgs d.st) (defBody d.st) (defScope d.st) .none kV doc pm an (.ref cda) ct cc), osl⟩ ∧
      PySem.W.findIn G.K (.ref (G.C c)) "__init__" = some (some (.ref (He.ma G.K (G.C c) "__init__"))) ∧ PySem.W.typeIn G.K (.ref (He.ma G.K (G.C c) "__init__")) = some (.type "function") := by
  obtain ⟨h1, h2⟩ := andB h
  obtain ⟨h3, h4⟩ := andB h1
  obtain ⟨hT, h5⟩ := andB h3
  obtain ⟨hI, hF⟩ := andB h5
  obtain ⟨hS, h6⟩ := andB h4
  obtain ⟨hM, hV⟩ := andB h6
  obtain ⟨h7, hfs⟩ := andB h2
  obtain ⟨hsup, h8⟩ := andB h7
  obtain ⟨hop, hsu⟩ := andB h8
  unfold Df.seen at e
  rw [ha] at e
  unfold supB at hS
  have hc2 := (andB hc).2
  rw [ha] at hc2
  split at hS
  · rename_i oc od fd osl q
    rw [q] at e hc2
    simp only [] at e hc2
    have hd0 := (andB hc2).2
    rw [hdv] at hd0
    obtain ⟨n1, n2, n3, n4, n5, n6, n7, n8, n9, n10, n11, n12, n13, n14, n15⟩ := fd
    unfold Df.due at e
    rw [hs] at e
    simp only [Option.some.injEq, Prod.mk.injEq, if_true] at e
    obtain ⟨h1, h2, h3, h4, h5, h6, h7, h8⟩ := e
    simp only [] at hS
    split at hS
    · rename_i cda y cc
      obtain ⟨g1, g2⟩ := andB hS
      obtain ⟨g3, g4⟩ := andB g1
      have hy : y = ("__class__" : Str) := by simpa using h7
      subst h1 h2 h3 h4 h5 h6 h8 hy
      have hn8 : n8 = .none := by
        cases n8 with
        | none => rfl
        | _ => cases hd0
      subst hn8
      refine ⟨cc, cda, oc, od, n9, n10, n11, n12, n14, osl, ?_, q, He.eqO_ok hI, of_decide_eq_true hF⟩
      refine { T := oexB_ok hT, code := g3, file := ?_, top := ht, cell := ?_, sub := of_decide_eq_true hM, subV := of_decide_eq_true hV, sup := He.eqO_ok hsup, opq := He.eqO_ok hop, glob := hg, first := X.first, kind := X.kind, co := X.co, gen := X.gen, nocell := X.nocell, ksup := X.ksup, kcls := X.kcls, kself := X.kself, kfs := fun f hf => ⟨X.kfs f hf, He.eqO_ok (List.all_eq_true.mp hfs f hf)⟩, nd := X.nd, dself := X.dself }
      · unfold fileB at g4
        split at g4
        · rename_i ccl cdd vs ccs ek
          unfold nameB at g4
          split at g4
          · rename_i v0 v1 f tf r el
            refine ⟨_, _, _, _, f, tf, ek, ?_, g4⟩
            rw [← Array.getElem?_toList, el]; rfl
          · cases g4
        · cases g4
      · unfold cellB at g2
        split at g2
        · rename_i cl cld D csl ek
          have eD := of_decide_eq_true g2
          subst eD
          exact ⟨_, _, _, ek⟩
        · cases g2
    · cases hS
  · cases hS
/-! ### the Hook -/
abbrev Saw : Type := Bool × List FnSeen
def saw (ex : Frg → Bool) (fn : List Df) (K : Frg) : Saw := (ex K && fn.all (Df.chk K), fn.map (Df.seen K))
def due (fn : List Df) : Saw := (true, fn.map Df.due)
/-- what the end leans on -/
structure Says (ex : Frg → Bool) (fn : List Df) (K : Frg) : Prop where
  eq : saw ex fn K = due fn
theorem Says.ex {ex : Frg → Bool} {fn : List Df} {K : Frg} (c : Says ex fn K) : ex K = true := (andB (show (ex K && fn.all (Df.chk K)) = true from congrArg Prod.fst c.eq)).1
theorem Says.at {ex : Frg → Bool} {fn : List Df} {K : Frg} (c : Says ex fn K) {d : Df} (i : Nat) (h : fn[i]? = some d) : d.seen K = d.due ∧ d.chk K = true := by
  have c1 := (andB (show (ex K && fn.all (Df.chk K)) = true from congrArg Prod.fst c.eq)).2
  have c2 : fn.map (Df.seen K) = fn.map Df.due := congrArg Prod.snd c.eq
  have c3 : (fn.map (Df.seen K))[i]? = (fn.map Df.due)[i]? := by rw [c2]
  rw [List.getElem?_map, List.getElem?_map, h] at c3
  exact ⟨Option.some.inj c3, List.all_eq_true.mp c1 d (List.mem_of_getElem? h)⟩
def sawG (n : Nat) (ex : Frg → Bool) (fn : List Df) (g : Addr → Option Obj) : Saw := saw ex fn (He.frG g (reach g n))
def hookL (n : Nat) (ex : Frg → Bool) (fn : List Df) : PySem.W.Hook where
  α := Saw
  obs s := sawG n ex fn s.heap.get?
  val _ := due fn
  says _ h := ∃ K : Frg, K.In h ∧ Says ex fn K
  of _ _ e := ⟨_, He.frG_in, ⟨e⟩⟩
  keeps := by
    intro _ _ _ z k
    obtain ⟨K, hK, c⟩ := z
    exact ⟨K, PySem.W.Frag.In.keeps hK k, c⟩
theorem sawG_eq {n : Nat} {ex : Frg → Bool} {fn : List Df} {g : Addr → Option Obj} {s : Shared} (h : ∀ a, g a = s.heap.get? a) : sawG n ex fn g = (hookL n ex fn).obs s := by
  rw [show g = s.heap.get? from funext h]; rfl
def obL (n : Nat) (ex : Frg → Bool) (fn : List Df) (s : PySem.W.SharedT) : Saw := sawG n ex fn (HandSHeadRun.getT s)
theorem obL_eq (n : Nat) (ex : Frg → Bool) (fn : List Df) (s : PySem.W.SharedT) : obL n ex fn s = (hookL n ex fn).obs s.abs := sawG_eq (HandSHeadRun.getT_eq s)
end DL
end
section
set_option Elab.async false
set_option linter.all false
set_option maxRecDepth 100000
set_option maxHeartbeats 2000000
namespace DL
open PySem L2

/-! ### the head: the law's def, and the end -/
/-- whatever world it is: what a call may let out -/
def CXe : CXT := fun outer H s E u s' => ∃ P w, L2N.CX P w outer H s E u s'
theorem fnOk_any {P : Program} {w : World} {K : Frg} {mg : Str → Option Value} {base : Heap} {k : Nat} {f : Addr} {fd : FuncData} {ps : List Str} {sp : Sp} (F : FnOk P w K mg base (L2N.CX P w) k f fd ps sp) : FnOk P w K mg base CXe k f fd ps sp :=
  ⟨F.len, fun A outer s H args us vs Q E hr he hb hv hs => codeAny_mono (F.run A outer s H args us vs Q E hr he hb hv hs) fun r s' h => by
    cases r with
    | ok v =>
      cases v <;> exact h
    | error e => exact ⟨P, w, h⟩⟩
theorem cxe_none (H : Hp) (s : Shared) (e : Value) (s' : Shared) (h : CXe [] H s (fun _ _ _ => False) e s') : False := by
  obtain ⟨P, w, a, B, H', cls, d, _, _, _, _, _, _, _, h⟩ := h
  exact h
/-- the script, as data -/
theorem start_ok {T : Tb} {m : List D → Store → Res D} {H : Hp} {a : Addr} {ns : List Int} {st : Store} (hO : Only H) (hS : SqL T.K H a (ns.map V.int)) (hm : m [.scr (ns.map .int)] [] = .ok (.bl true) st) :
    SpD T 1 m [.ref a] H (fun v _ => v = .bl true) fun _ _ _ => False := by
  have rs : ∀ (w : Wd) (ns : List Int), Reps T w H (ns.map D.int) (ns.map V.int) := fun w ns => by
    induction ns with
    | nil => rfl
    | cons n ns ih => exact ⟨_, _, rfl, rfl, ih⟩
  refine ⟨⟨[], []⟩, [], [.scr (ns.map .int)], rfl, ⟨rfl, List.nodup_nil, fun i a mo h _ => by simp at h, fun i mo h => by simp at h, fun p hp => by simp at hp⟩, ⟨.ref a, [], rfl, ⟨a, ns.map V.int, rfl, ?_, rs _ ns⟩, rfl⟩, ?_⟩
  · rcases hS with h | ⟨o, its, n, h⟩
    · exact .inl ⟨⟨by simp, by simp⟩, h⟩
    · exact .inr ⟨o, its, n, h⟩
  · rw [hm]
    exact fun w2 H' v _ _ r => r
theorem law_walk {l : PySem.W.OpenLaw} {n k N : Nat} {q : Program} {loose : List Str} {XP : (Str → Option Value) → Heap → Prop} {d : DefRec} {x : Str} {ex : Frg → Bool} {fn : List Df} {cn : List Str} {m : List D → Store → Res D} {at_ : Nat} {qual : Str} {st : Stmt}
    (hn : l.most = some n) (hn2 : n ≤ sizeLine) (hdf : d.params.defaults = []) (hr : Room k callerA) (hname : d.name = x) (p : Str)
    (hlaw : fn[at_]? = some ⟨(x, none), x, qual, st, [], false⟩) (hgl : ∀ K, Says ex fn K → PySem.W.nsIn K mainGlobals x = some (some (.ref (He.ga K x))))
    (hb : ∀ (kV doc pm : Value) (an : Option Addr) (cdv ct : Value) (us : List Value), us.length = 1 → bindArgs (PySem.W.fnOf x qual (defArgs st) (defBody st) (defScope st) .none kV doc pm an cdv ct) ⟨us, []⟩ = pure ([p].zip us))
    (hF : ∀ (w : World) (K : Frg) (mg : Str → Option Value) (base : Heap) (fd : FuncData), Says ex fn K → (∀ y v, PySem.W.nsIn K mainGlobals y = some v → mg y = v) → Fun K x qual st (He.ga K x) fd → FnOk l.prog w K mg base (L2N.CX l.prog w) k (He.ga K x) fd [p] (SpD ⟨K, adrs K cn⟩ 1 m))
    (hm : ∀ ns : List Int, ns.length ≤ n → ∃ st, m [.scr (ns.map .int)] [] = .ok (.bl true) st) :
    PySem.W.WalkO q loose XP (hookL N ex fn).says l.row.toRowW d [] (fun f vs => PySem.call f vs) := by
  refine L2.walk_ofE (l := l) (n := n) (k := k) (x := p) (CX := CXe) hn hn2 hdf hr ?_ cxe_none
  intro w mg fa h Y G hmg
  obtain ⟨K, KX, c⟩ := Y
  obtain ⟨e1, e2⟩ := c.at at_ hlaw
  obtain ⟨fd, F⟩ := Df.fun_ e1 e2 rfl rfl
  have emg : ∀ y v, PySem.W.nsIn K mainGlobals y = some v → mg y = v := fun y v hy => by
    cases v with
    | none => exact PySem.W.mg_none_of KX G hy
    | some u => exact PySem.W.mg_of KX G hy
  have eg := emg _ _ (hgl K c)
  rw [hname, eg] at hmg
  cases hmg
  refine ⟨K, fd, SpD ⟨K, adrs K cn⟩ 1 m, KX, fun s u => ?_, fun H a ns hl hO hS => ?_, fun base _ _ => fnOk_any (hF w K mg base fd c emg F)⟩
  · obtain ⟨oc, od, kV, doc, pm, an, cdv, ct, osl, rfl, lk, hcd⟩ := F.ex
    exact .of_eq (hb kV doc pm an cdv ct [u] rfl)
  · obtain ⟨st, e⟩ := hm ns hl
    exact start_ok hO hS e
end DL
end
section
set_option Elab.async false
set_option linter.all false
set_option maxRecDepth 100000
set_option maxHeartbeats 0
namespace Law
open PySem L2 DL
def cn : List Str := [("LineReader" : Str), ("AcrossError" : Str), ("BadReading" : Str), ("BadLine" : Str), ("BadWork" : Str), ("is_pick_text" : Str)]
def dfs : List Df := [
  ⟨("LineReader", some "__init__"), "__init__", "LineReader.__init__", s_LineReader_init, [], false⟩,
  ⟨("write_reading", none), "write_reading", "write_reading", s_write_reading, [], false⟩,
  ⟨("pick_of", none), "pick_of", "pick_of", s_pick_of, [], false⟩,
  ⟨("_law_source", none), "_law_source", "_law_source", s_law_source, [], false⟩,
  ⟨("_law_next", none), "_law_next", "_law_next", s_law_next, [], false⟩,
  ⟨("_law_pick", none), "_law_pick", "_law_pick", s_law_pick, [], false⟩,
  ⟨("_law_letter", none), "_law_letter", "_law_letter", s_law_letter, [], false⟩,
  ⟨("_law_is_word", none), "_law_is_word", "_law_is_word", s_law_is_word, [], false⟩,
  ⟨("_law_reading_line", none), "_law_reading_line", "_law_reading_line", s_law_reading_line, [], false⟩,
  ⟨("_law_error", none), "_law_error", "_law_error", s_law_error, [], false⟩,
  ⟨("is_word", none), "is_word", "is_word", s_is_word, [], false⟩,
  ⟨("write_work", none), "write_work", "write_work", s_write_work, [], false⟩,
  ⟨("is_pick_text", none), "is_pick_text", "is_pick_text", s_is_pick_text, [], false⟩,
  ⟨("_law_one_in", none), "_law_one_in", "_law_one_in", s_law_one_in, [], false⟩,
  ⟨("_law_one_of", none), "_law_one_of", "_law_one_of", s_law_one_of, [], false⟩,
  ⟨("_law_word", none), "_law_word", "_law_word", s_law_word, [], false⟩,
  ⟨("_law_pair_of", none), "_law_pair_of", "_law_pair_of", s_law_pair_of, [], false⟩,
  ⟨("LineReader", some "head"), "head", "LineReader.head", s_LineReader_head, [], false⟩,
  ⟨("LineReader", some "one"), "one", "LineReader.one", s_LineReader_one, [], false⟩,
  ⟨("LineReader", some "shut"), "shut", "LineReader.shut", s_LineReader_shut, [], false⟩,
  ⟨("_law_words", none), "_law_words", "_law_words", s_law_words, [], false⟩,
  ⟨("_law_read", none), "_law_read", "_law_read", s_law_read, [], false⟩,
  ⟨("_law_wide_reading", none), "_law_wide_reading", "_law_wide_reading", s_law_wide_reading, [], false⟩,
  ⟨("_law_bent_line", none), "_law_bent_line", "_law_bent_line", s_law_bent_line, [], false⟩,
  ⟨("LineReader", some "take"), "take", "LineReader.take", s_LineReader_take, [], false⟩,
  ⟨("LineReader", some "rest"), "rest", "LineReader.rest", s_LineReader_rest, [V.non], false⟩,
  ⟨("LineReader", some "past"), "past", "LineReader.past", s_LineReader_past, [], false⟩,
  ⟨("_law_bent_lines", none), "_law_bent_lines", "_law_bent_lines", s_law_bent_lines, [], false⟩,
  ⟨("read_chapter", none), "read_chapter", "read_chapter", s_read_chapter, [], false⟩,
  ⟨("read_reading", none), "read_reading", "read_reading", s_read_reading, [], false⟩,
  ⟨("read_work", none), "read_work", "read_work", s_read_work, [], false⟩,
  ⟨("_law_lists", none), "_law_lists", "_law_lists", s_law_lists, [], false⟩,
  ⟨("_law_same", none), "_law_same", "_law_same", s_law_same, [], false⟩,
  ⟨("_law_asked_work", none), "_law_asked_work", "_law_asked_work", s_law_asked_work, [], false⟩,
  ⟨("_law_asked_line", none), "_law_asked_line", "_law_asked_line", s_law_asked_line, [], false⟩,
  ⟨("_law_there_and_back", none), "_law_there_and_back", "_law_there_and_back", s_law_there_and_back, [], false⟩,
  ⟨("_law_round", none), "_law_round", "_law_round", s_law_round, [], false⟩,
  ⟨("law", none), "law", "law", s_law, [], false⟩,
  ⟨("BadLine", some "__init__"), "__init__", "BadLine.__init__", mem 3 0, [], true⟩]
def gloL : List Str := [("AcrossError" : Str), ("BadLine" : Str), ("BadReading" : Str), ("BadWork" : Str), ("LineReader" : Str), ("_law_asked_line" : Str), ("_law_asked_work" : Str), ("_law_bent_line" : Str), ("_law_bent_lines" : Str), ("_law_error" : Str), ("_law_is_word" : Str), ("_law_letter" : Str), ("_law_lists" : Str), ("_law_next" : Str), ("_law_one_in" : Str), ("_law_one_of" : Str), ("_law_pair_of" : Str), ("_law_pick" : Str), ("_law_read" : Str), ("_law_reading_line" : Str), ("_law_round" : Str), ("_law_same" : Str), ("_law_source" : Str), ("_law_there_and_back" : Str), ("_law_wide_reading" : Str), ("_law_word" : Str), ("_law_words" : Str), ("is_pick_text" : Str), ("is_word" : Str), ("law" : Str), ("pick_of" : Str), ("read_chapter" : Str), ("read_reading" : Str), ("read_work" : Str), ("write_reading" : Str), ("write_work" : Str)]
def freeL : List Str := [("ValueError" : Str), ("abs" : Str), ("all" : Str), ("bool" : Str), ("int" : Str), ("isinstance" : Str), ("len" : Str), ("list" : Str), ("range" : Str), ("str" : Str), ("sum" : Str), ("super" : Str), ("tuple" : Str)]
def faL : List He.Fa := [.mkr "LineReader", .meth "LineReader" "head", .meth "LineReader" "one", .meth "LineReader" "shut", .meth "LineReader" "take", .meth "LineReader" "rest", .meth "LineReader" "past", .int "MOST_CHAPTERS" 6]
def exK (K : Frg) : Bool := ((gloL.all fun x => He.eqO (PySem.W.nsIn K mainGlobals x) (some (some (.ref (He.ga K x))))) && (freeL.all fun x => He.eqO (PySem.W.nsIn K mainGlobals x) (some none))) &&
  ((kfB K (adrs K cn) nC jC && (noaB K (adrs K cn) nC (fun _ => atC) && efB K (adrs K cn) nC NX sX lX)) && ((faL.all fun f => f.ok K) && xinB K (adrs K cn 3) ("/claim/cut.py" : Str) "BadLine.__init__" ["line", "word"]))
theorem headFacts {P : Program} (hP : P = PySem.Challenge.pw_keptacross_k07_work_lines) (w : World) (K : Frg) (mg : Str → Option Value) (base : Heap) {fd : FuncData} (c : Says exK dfs K) (emg : ∀ y v, PySem.W.nsIn K mainGlobals y = some v → mg y = v) (FL : Fun K "law" "law" s_law (He.ga K "law") fd) :
    FnOk P w K mg base (L2N.CX P w) 25 (He.ga K "law") fd ["_law_script"] (SpD ⟨K, adrs K cn⟩ 1 m_law) := by
  let G : Gd := ⟨P, w, K, mg, base, adrs K cn⟩
  obtain ⟨h1, h2⟩ := andB c.ex
  obtain ⟨hglo, hfree⟩ := andB h1
  obtain ⟨h3, h4⟩ := andB h2
  obtain ⟨hkf, h5⟩ := andB h3
  obtain ⟨hna, hef⟩ := andB h5
  obtain ⟨h4, hx_BadLine⟩ := andB h4
  have gl : ∀ x ∈ gloL, mg x = some (.ref (He.ga K x)) := fun x hx => emg _ _ (He.eqO_ok (List.all_eq_true.mp hglo x hx))
  have fr : ∀ x ∈ freeL, mg x = none := fun x hx => emg _ _ (He.eqO_ok (List.all_eq_true.mp hfree x hx))
  have fa : ∀ (i : Nat) f, faL[i]? = some f → f.ok K = true := fun i f hf => List.all_eq_true.mp h4 f (List.mem_of_getElem? hf)
  have KF : Kf G nC jC := kfB_ok (G := G) hkf
  have NA : NoA G nC naC := noaB_ok (G := G) hna
  have EX : Ef G nC NX sX lX := efB_ok (G := G) hef
  have B : Bx G := ⟨fr _ (by decide +kernel), fr _ (by decide +kernel), fr _ (by decide +kernel), fr _ (by decide +kernel), fr _ (by decide +kernel), fr _ (by decide +kernel), fr _ (by decide +kernel), fr _ (by decide +kernel), fr _ (by decide +kernel), fr _ (by decide +kernel), fr _ (by decide +kernel), fr _ (by decide +kernel), gl _ (by decide +kernel), gl _ (by decide +kernel), gl _ (by decide +kernel), gl _ (by decide +kernel), gl _ (by decide +kernel)⟩
  have C_MOST_CHAPTERS : Kc G "MOST_CHAPTERS" (.int 6) := by
    have z := fa 7 _ rfl
    have z2 : (match PySem.W.nsIn K mainGlobals "MOST_CHAPTERS" with | some (some (.int j _)) => decide (j = 6) | _ => false) = true := z
    split at z2
    · rename_i j t e
      have ej := of_decide_eq_true z2
      subst ej
      exact ⟨.int _, .int _ t, emg _ _ e, ⟨t, rfl⟩, fun _ _ => rfl⟩
    · cases z2
  have X_BadLine : Xc G "BadLine" 3 ["line", "word"] 1 := by
    obtain ⟨cc, cda, oc, od, kV, doc, pm, an, ct, osl, XF, lk, g1, g2⟩ := xin_ok (G := G) (c := 3) (d := ⟨("BadLine", some "__init__"), "__init__", "BadLine.__init__", mem 3 0, [], true⟩) (sf := "self") (fs := ["line", "word"]) (by subst hP; exact hx_BadLine) (c.at 38 rfl).1 (c.at 38 rfl).2 rfl rfl rfl (by subst hP; show (PySem.Challenge.pw_keptacross_k07_work_lines.main.scope.names.lookup ("super" : Str)).isSome = false; decide +kernel) (fr _ (by decide +kernel))
      ⟨⟨_, rfl, rfl⟩, rfl, rfl, rfl, by decide +kernel, by decide +kernel, by decide +kernel, by decide +kernel, by decide +kernel, by decide +kernel, by decide +kernel⟩
    refine ⟨XF.T, gl _ (by decide +kernel), by decide, _, _, "self", g1, g2, fn_xinit XF lk rfl (.cons (fun _ => rfl) (by decide +kernel) (.cons (fun _ => rfl) (by decide +kernel) .nil)) ?_ (by decide) (by decide) (by decide) (fun _ => rfl) (fun _ => rfl) (fun H h v u ok s r => s h u ok r), .all fun us hl => match us, hl with | [_, _, _], _ => rfl⟩
    intro e he
    simp only [List.mem_cons, List.not_mem_nil, or_false] at he
    rcases he with rfl | rfl | rfl | rfl
    · exact .txt (by decide +kernel)
    · exact .nam (by decide +kernel) (by decide +kernel)
    · exact .txt (by decide +kernel)
    · exact .nam (by decide +kernel) (by decide +kernel)
  have K_LineReader : Km G "LineReader" 0 1 1 m_LineReader_init := by
    obtain ⟨fd, F⟩ := Df.fun_ (c.at 0 rfl).1 (c.at 0 rfl).2 rfl rfl
    exact ⟨_, He.mkr_ok (fa 0 _ rfl), gl _ (by decide +kernel), fd, ["self", "lines"], fn_def F sc_LineReader_init rfl (d_LineReader_init B KF NA EX), (F.binds (ps := ["self", "lines"]) fun _ _ _ _ _ _ us hl => match us, hl with | [_, _], _ => rfl)⟩
  have F_write_reading : Fd G "write_reading" 1 1 [] m_write_reading := by
    obtain ⟨fd, F⟩ := Df.fun_ (c.at 1 rfl).1 (c.at 1 rfl).2 rfl rfl
    exact fd_mk F (gl _ (by decide +kernel)) sc_write_reading rfl (d_write_reading B KF NA EX) (F.binds (ps := ["reading"]) fun _ _ _ _ _ _ us hl => match us, hl with | [_], _ => rfl)
  have F_pick_of : Fd G "pick_of" 1 1 [] m_pick_of := by
    obtain ⟨fd, F⟩ := Df.fun_ (c.at 2 rfl).1 (c.at 2 rfl).2 rfl rfl
    exact fd_mk F (gl _ (by decide +kernel)) sc_pick_of rfl (d_pick_of B KF NA EX) (F.binds (ps := ["text"]) fun _ _ _ _ _ _ us hl => match us, hl with | [_], _ => rfl)
  have F_law_source : Fd G "_law_source" 2 1 [] m_law_source := by
    obtain ⟨fd, F⟩ := Df.fun_ (c.at 3 rfl).1 (c.at 3 rfl).2 rfl rfl
    exact fd_mkB F (gl _ (by decide +kernel)) sc_law_source rfl (d_law_source B KF NA EX) (F.binds (ps := ["_law_script", "_law_salt"]) fun _ _ _ _ _ _ us hl => match us, hl with | [_, _], _ => rfl)
  have F_law_next : Fd G "_law_next" 1 1 [] m_law_next := by
    obtain ⟨fd, F⟩ := Df.fun_ (c.at 4 rfl).1 (c.at 4 rfl).2 rfl rfl
    exact fd_mk F (gl _ (by decide +kernel)) sc_law_next rfl (d_law_next B KF NA EX) (F.binds (ps := ["_law_source_here"]) fun _ _ _ _ _ _ us hl => match us, hl with | [_], _ => rfl)
  have F_law_pick : Fd G "_law_pick" 2 1 [] m_law_pick := by
    obtain ⟨fd, F⟩ := Df.fun_ (c.at 5 rfl).1 (c.at 5 rfl).2 rfl rfl
    exact fd_mk F (gl _ (by decide +kernel)) sc_law_pick rfl (d_law_pick B KF NA EX) (F.binds (ps := ["_law_source_here", "_law_many"]) fun _ _ _ _ _ _ us hl => match us, hl with | [_, _], _ => rfl)
  have F_law_letter : Fd G "_law_letter" 1 1 [] m_law_letter := by
    obtain ⟨fd, F⟩ := Df.fun_ (c.at 6 rfl).1 (c.at 6 rfl).2 rfl rfl
    exact fd_mk F (gl _ (by decide +kernel)) sc_law_letter rfl (d_law_letter B KF NA EX) (F.binds (ps := ["_law_k"]) fun _ _ _ _ _ _ us hl => match us, hl with | [_], _ => rfl)
  have F_law_is_word : Fd G "_law_is_word" 1 1 [] m_law_is_word := by
    obtain ⟨fd, F⟩ := Df.fun_ (c.at 7 rfl).1 (c.at 7 rfl).2 rfl rfl
    exact fd_mk F (gl _ (by decide +kernel)) sc_law_is_word rfl (d_law_is_word B KF NA EX) (F.binds (ps := ["_law_text"]) fun _ _ _ _ _ _ us hl => match us, hl with | [_], _ => rfl)
  have F_law_reading_line : Fd G "_law_reading_line" 1 1 [] m_law_reading_line := by
    obtain ⟨fd, F⟩ := Df.fun_ (c.at 8 rfl).1 (c.at 8 rfl).2 rfl rfl
    exact fd_mk F (gl _ (by decide +kernel)) sc_law_reading_line rfl (d_law_reading_line B KF NA EX) (F.binds (ps := ["_law_reading"]) fun _ _ _ _ _ _ us hl => match us, hl with | [_], _ => rfl)
  have FX_law_error : Fx G "_law_error" 1 m_law_error := by
    obtain ⟨fd, F⟩ := Df.fun_ (c.at 9 rfl).1 (c.at 9 rfl).2 rfl rfl
    exact fx_mk F (gl _ (by decide +kernel)) sc_law_error (d_law_error B KF NA EX) (F.binds (ps := ["_law_raised"]) fun _ _ _ _ _ _ us hl => match us, hl with | [_], _ => rfl)
  have F_is_word : Fd G "is_word" 1 1 [] m_is_word := by
    obtain ⟨fd, F⟩ := Df.fun_ (c.at 10 rfl).1 (c.at 10 rfl).2 rfl rfl
    exact fd_mk F (gl _ (by decide +kernel)) sc_is_word rfl (d_is_word B KF NA EX) (F.binds (ps := ["thing"]) fun _ _ _ _ _ _ us hl => match us, hl with | [_], _ => rfl)
  have F_write_work : Fd G "write_work" 1 2 [] m_write_work := by
    obtain ⟨fd, F⟩ := Df.fun_ (c.at 11 rfl).1 (c.at 11 rfl).2 rfl rfl
    exact fd_mk F (gl _ (by decide +kernel)) sc_write_work rfl (d_write_work B KF NA EX F_write_reading) (F.binds (ps := ["chapters"]) fun _ _ _ _ _ _ us hl => match us, hl with | [_], _ => rfl)
  have F_is_pick_text : Fd G "is_pick_text" 1 2 [] m_is_pick_text := by
    obtain ⟨fd, F⟩ := Df.fun_ (c.at 12 rfl).1 (c.at 12 rfl).2 rfl rfl
    exact fd_mk F (gl _ (by decide +kernel)) sc_is_pick_text rfl (d_is_pick_text B KF NA EX F_is_word) (F.binds (ps := ["text"]) fun _ _ _ _ _ _ us hl => match us, hl with | [_], _ => rfl)
  have V_is_pick_text : Fv G 5 1 2 m_is_pick_text := by
    obtain ⟨fd, F⟩ := Df.fun_ (c.at 12 rfl).1 (c.at 12 rfl).2 rfl rfl
    exact ⟨fd, ["text"], fn_def F sc_is_pick_text rfl (d_is_pick_text B KF NA EX F_is_word), F.kp, (F.binds (ps := ["text"]) fun _ _ _ _ _ _ us hl => match us, hl with | [_], _ => rfl)⟩
  have F_law_one_in : Fd G "_law_one_in" 2 2 [] m_law_one_in := by
    obtain ⟨fd, F⟩ := Df.fun_ (c.at 13 rfl).1 (c.at 13 rfl).2 rfl rfl
    exact fd_mk F (gl _ (by decide +kernel)) sc_law_one_in rfl (d_law_one_in B KF NA EX F_law_pick) (F.binds (ps := ["_law_source_here", "_law_many"]) fun _ _ _ _ _ _ us hl => match us, hl with | [_, _], _ => rfl)
  have F_law_one_of : Fd G "_law_one_of" 2 2 [] m_law_one_of := by
    obtain ⟨fd, F⟩ := Df.fun_ (c.at 14 rfl).1 (c.at 14 rfl).2 rfl rfl
    exact fd_mk F (gl _ (by decide +kernel)) sc_law_one_of rfl (d_law_one_of B KF NA EX F_law_pick) (F.binds (ps := ["_law_source_here", "_law_row"]) fun _ _ _ _ _ _ us hl => match us, hl with | [_, _], _ => rfl)
  have F_law_word : Fd G "_law_word" 2 2 [] m_law_word := by
    obtain ⟨fd, F⟩ := Df.fun_ (c.at 15 rfl).1 (c.at 15 rfl).2 rfl rfl
    exact fd_mk F (gl _ (by decide +kernel)) sc_law_word rfl (d_law_word B KF NA EX F_law_letter F_law_pick) (F.binds (ps := ["_law_source_here", "_law_longest"]) fun _ _ _ _ _ _ us hl => match us, hl with | [_, _], _ => rfl)
  have F_law_pair_of : Fd G "_law_pair_of" 1 2 [] m_law_pair_of := by
    obtain ⟨fd, F⟩ := Df.fun_ (c.at 16 rfl).1 (c.at 16 rfl).2 rfl rfl
    exact fd_mk F (gl _ (by decide +kernel)) sc_law_pair_of rfl (d_law_pair_of B KF NA EX F_law_is_word) (F.binds (ps := ["_law_text"]) fun _ _ _ _ _ _ us hl => match us, hl with | [_], _ => rfl)
  have M_LineReader_head : Mt G 0 "head" 0 3 m_LineReader_head := by
    obtain ⟨fd, F⟩ := Df.fun_ (c.at 17 rfl).1 (c.at 17 rfl).2 rfl rfl
    exact ⟨_, He.meth_ok (fa 1 _ rfl), fd, ["self"], fn_def F sc_LineReader_head rfl (d_LineReader_head B KF NA EX X_BadLine), (F.binds (ps := ["self"]) fun _ _ _ _ _ _ us hl => match us, hl with | [_], _ => rfl)⟩
  have M_LineReader_one : Mt G 0 "one" 1 3 m_LineReader_one := by
    obtain ⟨fd, F⟩ := Df.fun_ (c.at 18 rfl).1 (c.at 18 rfl).2 rfl rfl
    exact ⟨_, He.meth_ok (fa 2 _ rfl), fd, ["self", "good"], fn_def F sc_LineReader_one rfl (d_LineReader_one B KF NA EX V_is_pick_text X_BadLine), (F.binds (ps := ["self", "good"]) fun _ _ _ _ _ _ us hl => match us, hl with | [_, _], _ => rfl)⟩
  have M_LineReader_shut : Mt G 0 "shut" 0 3 m_LineReader_shut := by
    obtain ⟨fd, F⟩ := Df.fun_ (c.at 19 rfl).1 (c.at 19 rfl).2 rfl rfl
    exact ⟨_, He.meth_ok (fa 3 _ rfl), fd, ["self"], fn_def F sc_LineReader_shut rfl (d_LineReader_shut B KF NA EX X_BadLine), (F.binds (ps := ["self"]) fun _ _ _ _ _ _ us hl => match us, hl with | [_], _ => rfl)⟩
  have F_law_words : Fd G "_law_words" 4 3 [] m_law_words := by
    obtain ⟨fd, F⟩ := Df.fun_ (c.at 20 rfl).1 (c.at 20 rfl).2 rfl rfl
    exact fd_mk F (gl _ (by decide +kernel)) sc_law_words rfl (d_law_words B KF NA EX F_law_letter F_law_word) (F.binds (ps := ["_law_source_here", "_law_many", "_law_longest", "_law_spent"]) fun _ _ _ _ _ _ us hl => match us, hl with | [_, _, _, _], _ => rfl)
  have F_law_read : Fd G "_law_read" 1 3 [] m_law_read := by
    obtain ⟨fd, F⟩ := Df.fun_ (c.at 21 rfl).1 (c.at 21 rfl).2 rfl rfl
    exact fd_mk F (gl _ (by decide +kernel)) sc_law_read rfl (d_law_read B KF NA EX F_law_pair_of) (F.binds (ps := ["_law_lines"]) fun _ _ _ _ _ _ us hl => match us, hl with | [_], _ => rfl)
  have F_law_wide_reading : Fd G "_law_wide_reading" 2 3 [] m_law_wide_reading := by
    obtain ⟨fd, F⟩ := Df.fun_ (c.at 22 rfl).1 (c.at 22 rfl).2 rfl rfl
    exact fd_mk F (gl _ (by decide +kernel)) sc_law_wide_reading rfl (d_law_wide_reading B KF NA EX F_law_next F_law_one_in F_law_one_of F_law_pick) (F.binds (ps := ["_law_source_here", "_law_pool"]) fun _ _ _ _ _ _ us hl => match us, hl with | [_, _], _ => rfl)
  have F_law_bent_line : Fd G "_law_bent_line" 2 3 [] m_law_bent_line := by
    obtain ⟨fd, F⟩ := Df.fun_ (c.at 23 rfl).1 (c.at 23 rfl).2 rfl rfl
    exact fd_mk F (gl _ (by decide +kernel)) sc_law_bent_line rfl (d_law_bent_line B KF NA EX F_law_one_in F_law_one_of F_law_pick) (F.binds (ps := ["_law_source_here", "_law_line"]) fun _ _ _ _ _ _ us hl => match us, hl with | [_, _], _ => rfl)
  have M_LineReader_take : Mt G 0 "take" 1 4 m_LineReader_take := by
    obtain ⟨fd, F⟩ := Df.fun_ (c.at 24 rfl).1 (c.at 24 rfl).2 rfl rfl
    exact ⟨_, He.meth_ok (fa 4 _ rfl), fd, ["self", "name"], fn_def F sc_LineReader_take rfl (d_LineReader_take B KF NA EX X_BadLine M_LineReader_head), (F.binds (ps := ["self", "name"]) fun _ _ _ _ _ _ us hl => match us, hl with | [_, _], _ => rfl)⟩
  have MD_LineReader_rest : MtD G 0 "rest" 3 4 [.non] m_LineReader_rest := by
    obtain ⟨fd, F⟩ := Df.funD (c.at 25 rfl).1 (c.at 25 rfl).2 rfl
    obtain ⟨ds, hv, hb⟩ := F.binds1 (ps := ["self", "good", "least", "most"]) 3 0 (by simp) rfl fun T kV doc pm an cdv ct us its h1 h2 => by
      match us, h1, its, h2 with
      | [_, _, _], _, [_], _ => exact ⟨_, rfl, rfl⟩
    exact ⟨_, fd, ["self", "good", "least", "most"], ds, _, He.meth_ok (fa 5 _ rfl), fn_defD F sc_LineReader_rest rfl lv_def (d_LineReader_rest B KF NA EX X_BadLine M_LineReader_one M_LineReader_shut), hb, hv, fun _ _ => ⟨_, _, rfl, rfl, rfl⟩⟩
  have M_LineReader_past : Mt G 0 "past" 0 4 m_LineReader_past := by
    obtain ⟨fd, F⟩ := Df.fun_ (c.at 26 rfl).1 (c.at 26 rfl).2 rfl rfl
    exact ⟨_, He.meth_ok (fa 6 _ rfl), fd, ["self"], fn_def F sc_LineReader_past rfl (d_LineReader_past B KF NA EX X_BadLine M_LineReader_head), (F.binds (ps := ["self"]) fun _ _ _ _ _ _ us hl => match us, hl with | [_], _ => rfl)⟩
  have F_law_bent_lines : Fd G "_law_bent_lines" 2 4 [] m_law_bent_lines := by
    obtain ⟨fd, F⟩ := Df.fun_ (c.at 27 rfl).1 (c.at 27 rfl).2 rfl rfl
    exact fd_mk F (gl _ (by decide +kernel)) sc_law_bent_lines rfl (d_law_bent_lines B KF NA EX F_law_bent_line F_law_one_of F_law_pick) (F.binds (ps := ["_law_source_here", "_law_lines"]) fun _ _ _ _ _ _ us hl => match us, hl with | [_, _], _ => rfl)
  have F_read_chapter : Fd G "read_chapter" 1 5 [] m_read_chapter := by
    obtain ⟨fd, F⟩ := Df.fun_ (c.at 28 rfl).1 (c.at 28 rfl).2 rfl rfl
    exact fd_mk F (gl _ (by decide +kernel)) sc_read_chapter rfl (d_read_chapter B KF NA EX MD_LineReader_rest M_LineReader_take F_pick_of) (F.binds (ps := ["reader"]) fun _ _ _ _ _ _ us hl => match us, hl with | [_], _ => rfl)
  have F_read_reading : Fd G "read_reading" 1 6 [] m_read_reading := by
    obtain ⟨fd, F⟩ := Df.fun_ (c.at 29 rfl).1 (c.at 29 rfl).2 rfl rfl
    exact fd_mk F (gl _ (by decide +kernel)) sc_read_reading rfl (d_read_reading B KF NA EX K_LineReader F_read_chapter) (F.binds (ps := ["line"]) fun _ _ _ _ _ _ us hl => match us, hl with | [_], _ => rfl)
  have F_read_work : Fd G "read_work" 1 6 [] m_read_work := by
    obtain ⟨fd, F⟩ := Df.fun_ (c.at 30 rfl).1 (c.at 30 rfl).2 rfl rfl
    exact fd_mk F (gl _ (by decide +kernel)) sc_read_work rfl (d_read_work B KF NA EX C_MOST_CHAPTERS K_LineReader M_LineReader_head M_LineReader_past F_read_chapter) (F.binds (ps := ["lines"]) fun _ _ _ _ _ _ us hl => match us, hl with | [_], _ => rfl)
  have F_law_lists : Fd G "_law_lists" 1 21 [] (m_law_lists 20) := by
    obtain ⟨fd, F⟩ := Df.fun_ (c.at 31 rfl).1 (c.at 31 rfl).2 rfl rfl
    exact fd_rec (k := 1) F (gl _ (by decide +kernel)) sc_law_lists rfl (fun i m R => d_law_lists B KF NA EX R (Nat.le_refl _) (by omega)) (F.binds (ps := ["_law_thing"]) fun _ _ _ _ _ _ us hl => match us, hl with | [_], _ => rfl) 20
  have F_law_same : Fd G "_law_same" 2 21 [] (m_law_same 20) := by
    obtain ⟨fd, F⟩ := Df.fun_ (c.at 32 rfl).1 (c.at 32 rfl).2 rfl rfl
    exact fd_rec (k := 1) F (gl _ (by decide +kernel)) sc_law_same rfl (fun i m R => d_law_same B KF NA EX R (Nat.le_refl _) (by omega)) (F.binds (ps := ["_law_actual", "_law_due"]) fun _ _ _ _ _ _ us hl => match us, hl with | [_, _], _ => rfl) 20
  have F_law_asked_work : Fd G "_law_asked_work" 2 22 [] m_law_asked_work := by
    obtain ⟨fd, F⟩ := Df.fun_ (c.at 33 rfl).1 (c.at 33 rfl).2 rfl rfl
    exact fd_mk F (gl _ (by decide +kernel)) sc_law_asked_work rfl (d_law_asked_work B KF NA EX FX_law_error F_law_same F_read_work) (F.binds (ps := ["_law_lines", "_law_due"]) fun _ _ _ _ _ _ us hl => match us, hl with | [_, _], _ => rfl)
  have F_law_asked_line : Fd G "_law_asked_line" 1 22 [] m_law_asked_line := by
    obtain ⟨fd, F⟩ := Df.fun_ (c.at 34 rfl).1 (c.at 34 rfl).2 rfl rfl
    exact fd_mk F (gl _ (by decide +kernel)) sc_law_asked_line rfl (d_law_asked_line B KF NA EX FX_law_error F_law_read F_law_same F_read_reading) (F.binds (ps := ["_law_line"]) fun _ _ _ _ _ _ us hl => match us, hl with | [_], _ => rfl)
  have F_law_there_and_back : Fd G "_law_there_and_back" 2 23 [] m_law_there_and_back := by
    obtain ⟨fd, F⟩ := Df.fun_ (c.at 35 rfl).1 (c.at 35 rfl).2 rfl rfl
    exact fd_mk F (gl _ (by decide +kernel)) sc_law_there_and_back rfl (d_law_there_and_back B KF NA EX F_law_asked_work F_law_lists F_law_reading_line F_law_same F_read_reading F_write_reading F_write_work) (F.binds (ps := ["_law_chapters", "_law_form"]) fun _ _ _ _ _ _ us hl => match us, hl with | [_, _], _ => rfl)
  have F_law_round : Fd G "_law_round" 2 24 [] m_law_round := by
    obtain ⟨fd, F⟩ := Df.fun_ (c.at 36 rfl).1 (c.at 36 rfl).2 rfl rfl
    exact fd_mk F (gl _ (by decide +kernel)) sc_law_round rfl (d_law_round B KF NA EX F_law_asked_line F_law_asked_work F_law_bent_lines F_law_next F_law_one_of F_law_pick F_law_read F_law_reading_line F_law_there_and_back F_law_wide_reading F_law_words) (F.binds (ps := ["_law_source_here", "_law_form"]) fun _ _ _ _ _ _ us hl => match us, hl with | [_, _], _ => rfl)
  exact fn_def (G := G) FL sc_law rfl (d_law B KF NA EX F_law_round F_law_source)
end Law
end
section
set_option Elab.async false
set_option linter.all false
set_option maxRecDepth 100000
set_option maxHeartbeats 0
namespace Law
open PySem L2 DL PyProof.Rows
abbrev lawRow : PySem.W.OpenRow := PySem.W.OpenLaw.row PySem.Challenge.rw_keptacross_k07_work_lines
abbrev lawView : Program := PySem.W.view lawRow.prog [41]
def loose : List Str := [("AcrossError" : Str), ("BadReading" : Str), ("BadLine" : Str), ("BadWork" : Str), ("LineReader" : Str), ("is_word" : Str), ("write_reading" : Str), ("write_work" : Str), ("is_pick_text" : Str), ("pick_of" : Str), ("read_chapter" : Str), ("read_reading" : Str), ("read_work" : Str), ("_law_source" : Str), ("_law_next" : Str), ("_law_pick" : Str), ("_law_one_in" : Str), ("_law_one_of" : Str), ("_law_letter" : Str), ("_law_word" : Str), ("_law_words" : Str), ("_law_lists" : Str), ("_law_same" : Str), ("_law_is_word" : Str), ("_law_reading_line" : Str), ("_law_pair_of" : Str), ("_law_read" : Str), ("_law_error" : Str), ("_law_asked_work" : Str), ("_law_asked_line" : Str), ("_law_wide_reading" : Str), ("_law_bent_line" : Str), ("_law_bent_lines" : Str), ("_law_there_and_back" : Str), ("_law_round" : Str), ("MOST_CHAPTERS" : Str)]
theorem headRun (w : World) : HandSHeadRun.RunEq lawRow lawView (hookL 6 exK dfs) (obL 6 exK dfs) 8000 loose w := by
  intro os
  kernel_rfl
end Law
end
section
set_option Elab.async false
set_option linter.all false
set_option maxRecDepth 100000
set_option maxHeartbeats 0
namespace Law
open PySem L2 DL PyProof.Rows
theorem lawSays (K : Frg) (c : Says exK dfs K) : PySem.W.nsIn K mainGlobals "law" = some (some (.ref (He.ga K "law"))) := by
  obtain ⟨h1, h2⟩ := andB c.ex
  obtain ⟨hglo, hfree⟩ := andB h1
  exact He.eqO_ok (List.all_eq_true.mp hglo "law" (by decide +kernel))
end Law
open PySem PySem.W PySem.Calls PyProof.Rows
theorem law_from (hm : ∀ ns : List Int, ns.length ≤ 63 → ∃ st, Law.m_law [.scr (ns.map .int)] [] = .ok (.bl true) st) : PySem.Challenge.rw_keptacross_k07_work_lines.Holds := by
  w_on; o_law
  refine HandSHeadRun.head_any (r := OpenLaw.row PySem.Challenge.rw_keptacross_k07_work_lines) (q := Law.lawView) (H := DL.hookL 6 Law.exK Law.dfs) (ob := DL.obL 6 Law.exK Law.dfs) (M := 8000) (loose := Law.loose) (d := HandSHeadRun.topDef (OpenLaw.row PySem.Challenge.rw_keptacross_k07_work_lines).prog 41) (kwd := []) (DL.obL_eq _ _ _)
    (by kernel_rfl) (fun s => by kernel_rfl) Law.headRun (by kernel_rfl) (by kernel_rfl) (by kernel_rfl) (by rfl) (by first | assumption | decide +kernel) (by decide +kernel) ⟨rfl, rfl, rfl, rfl, rfl, by decide +kernel⟩ ?hw ?hc
  case hw => w_witness2
  case hc =>
    exact DL.law_walk (l := PySem.Challenge.rw_keptacross_k07_work_lines) (n := 63) (k := 25) (cn := Law.cn) (m := Law.m_law) (at_ := 37) (qual := "law") (st := Law.s_law) rfl (by decide) (by kernel_rfl) ⟨rfl, by decide, by decide⟩ (by kernel_rfl) "_law_script" rfl Law.lawSays
      (fun _ _ _ _ _ _ us hl => match us, hl with | [_], _ => rfl) (fun w K mg base fd c emg F => Law.headFacts rfl w K mg base c emg F) hm
end
section
set_option Elab.async false
set_option linter.all false
set_option maxRecDepth 100000
set_option maxHeartbeats 4000000
/-! what the laws draw with: the mirrors of their shared helpers, and what they give -/
namespace Draw
open PySem L2 DL
def b_law_source : MS := (msRet (mLstM (mCons (mVar 0) (mCons (mVar 1) (mCons (mC (.int 0)) (mCons (mC (.int 0)) (mCons (mC (.int 0)) mNil)))))))
def m_law_source : List D → Store → Res D := mDefB 2 b_law_source
def b_law_next : MS := (msSeq (msSet 1 (mOp dIx (mVar 0) (mC (.int 0)))) (msSeq (msSet 2 (mOp dIx (mVar 0) (mC (.int 1)))) (msSeq (msSet 3 (mIf (mTest (mOp dLt (mVar 2) (mCall bLen (mCons (mVar 1) mNil)))) (mOp dIx (mVar 1) (mVar 2)) (mOp dMod (mCall bInt (mCons (mOp dAdd (mCall bSum (mCons (mSl (mVar 1) mPn (mPs (mC (.int 1)))) mNil)) (mOp dMul (mC (.int 31)) (mVar 2))) mNil)) (mC (.int 1000003))))) (msSeq (msSetIx (mOp dAdd (mVar 2) (mC (.int 1))) (mVar 0) (mC (.int 1))) (msSeq (msSetIx (mIf (mTest (mOp dGe (mCall bAbs (mCons (mVar 3) mNil)) (mOp dPow (mC (.int 10)) (mC (.int 18))))) (mOp dAdd (mCall bAbs (mCons (mVar 3) mNil)) (mCall bInt (mCons (mOp dLt (mVar 3) (mC (.int 0))) mNil))) (mC (.int 0))) (mVar 0) (mC (.int 2))) (msSeq (msSetIx (mOp dAdd (mOp dMod (mCall bInt (mCons (mVar 3) mNil)) (mC (.int 2147483629))) (mOp dMul (mC (.int 17)) (mOp dIx (mVar 0) (mC (.int 1))))) (mVar 0) (mC (.int 3))) (msSetIx (mC (.int 0)) (mVar 0) (mC (.int 4)))))))))
def m_law_next : List D → Store → Res D := mDef 4 b_law_next
def b_law_pick : MS := (msSeq (msIf (mTest (mOp dGt (mOp dIx (mVar 0) (mC (.int 2))) (mC (.int 0)))) (msSeq (msSet 5 (mOp dMod (mCall bInt (mCons (mOp dIx (mVar 0) (mC (.int 2))) mNil)) (mVar 1))) (msSeq (msSetIx (mOp dFdiv (mOp dIx (mVar 0) (mC (.int 2))) (mVar 1)) (mVar 0) (mC (.int 2))) (msRet (mVar 5)))) msNext) (msSeq (msSetIx (mOp dAdd (mOp dIx (mVar 0) (mC (.int 4))) (mC (.int 1))) (mVar 0) (mC (.int 4))) (msSeq (msSet 2 (mOp dMod (mCall bInt (mCons (mOp dAdd (mOp dAdd (mOp dMul (mOp dIx (mVar 0) (mC (.int 3))) (mC (.int 48271))) (mOp dMul (mOp dIx (mVar 0) (mC (.int 4))) (mC (.int 1234577)))) (mC (.int 7))) mNil)) (mC (.int 2147483647)))) (msSeq (msSet 3 (mOp dMod (mCall bInt (mCons (mOp dAdd (mOp dMul (mVar 2) (mVar 2)) (mOp dMul (mC (.int 16807)) (mOp dIx (mVar 0) (mC (.int 4))))) mNil)) (mC (.int 2147483399)))) (msSeq (msSet 4 (mOp dMod (mCall bInt (mCons (mOp dMul (mVar 3) (mVar 3)) mNil)) (mC (.int 2147483029)))) (msRet (mOp dMod (mCall bInt (mCons (mOp dAdd (mOp dFdiv (mVar 4) (mC (.int 11))) (mOp dFdiv (mVar 2) (mC (.int 7)))) mNil)) (mVar 1))))))))
def m_law_pick : List D → Store → Res D := mDef 6 b_law_pick
def b_law_one_in : MS := (msRet (mOp dEq (mCall m_law_pick (mCons (mVar 0) (mCons (mVar 1) mNil))) (mC (.int 0))))
def m_law_one_in : List D → Store → Res D := mDef 2 b_law_one_in
def b_law_one_of : MS := (msRet (mOp dIx (mVar 1) (mCall m_law_pick (mCons (mVar 0) (mCons (mCall bLen (mCons (mVar 1) mNil)) mNil)))))
def m_law_one_of : List D → Store → Res D := mDef 2 b_law_one_of
def b_law_letter : MS := (msRet (mOp dIx (mC (.str ("abcdefghijklmnopqrstuvwxyz" : Str))) (mOp dMod (mCall bInt (mCons (mVar 0) mNil)) (mC (.int 26)))))
def m_law_letter : List D → Store → Res D := mDef 1 b_law_letter
def b_law_word : MS := (msSeq (msSet 2 (mOp dAdd (mC (.int 1)) (mCall m_law_pick (mCons (mVar 0) (mCons (mVar 1) mNil))))) (msRet (mMethS dJoin (mC (.str ("" : Str))) (mLc (mRng1 (mCons (mVar 2) mNil)) (gvName 3) mYes (mCall m_law_letter (mCons (mCall m_law_pick (mCons (mVar 0) (mCons (mC (.int 26)) mNil))) mNil)) [3]))))
def m_law_word : List D → Store → Res D := mDef 4 b_law_word
def b_law_words : MS := (msSeq (msSet 4 (mLstM mNil)) (msSeq (msFor (mRng1 (mCons (mVar 1) mNil)) (gvName 5) (msSeq (msSet 6 (mCall m_law_word (mCons (mVar 0) (mCons (mVar 2) mNil)))) (msSeq (msSet 7 (mOp dAdd (mOp dAdd (mCall bLen (mCons (mVar 3) mNil)) (mCall bLen (mCons (mVar 4) mNil))) (mC (.int 1)))) (msSeq (msSet 8 (mOp dAdd (mLst (mCons (mVar 6) mNil)) (mLc (mRng1 (mCons (mVar 7) mNil)) (gvName 9) mYes (mOp dAdd (mOp dAdd (mSl (mVar 6) mPn (mPs (mOp dSub (mVar 2) (mC (.int 1))))) (mCall m_law_letter (mCons (mOp dFdiv (mVar 9) (mC (.int 26))) mNil))) (mCall m_law_letter (mCons (mVar 9) mNil))) [9]))) (msDrop (mMethL dAppend (mVar 4) (mCons (mOp dIx (mLc (mAny (mVar 8)) (gvName 10) (mAnd (mTest (mOp (dDIn true) (mVar 10) (mVar 3))) (mTest (mOp (dDIn true) (mVar 10) (mVar 4)))) (mVar 10) [10]) (mC (.int 0))) mNil))))))) (msRet (mVar 4))))
def m_law_words : List D → Store → Res D := mDef 11 b_law_words
def b_law_lists (rec : List D → Store → Res D) : MS := (msRet (mIf (mTest (mIsi1 0 (fun a b => a == b) (mVar 0) (mC (.ty "tuple")))) (mLc (mAny (mVar 0)) (gvName 1) mYes (mCall rec (mCons (mVar 1) mNil)) [1]) (mVar 0)))
def m_law_lists : Nat → List D → Store → Res D := mRec 2 b_law_lists
def b_law_same (rec : List D → Store → Res D) : MS := (msSeq (msIf (mTest (mIsN (mVar 1))) (msRet (mIsN (mVar 0))) msNext) (msSeq (msIf (mTest (mIsi1 0 (fun a b => a == b) (mVar 1) (mC (.ty "bool")))) (msRet (mAndV (mIsi1 0 (fun a b => a == b) (mVar 0) (mC (.ty "bool"))) (mOp dEq (mVar 0) (mVar 1)))) msNext) (msSeq (msIf (mTest (mIsi1 0 (fun a b => a == b) (mVar 1) (mC (.ty "tuple")))) (msSeq (msIf (mOr (mNot (mTest (mIsi1 0 (fun a b => a == b) (mVar 0) (mC (.ty "tuple"))))) (mTest (mOp dNe (mCall bLen (mCons (mVar 0) mNil)) (mCall bLen (mCons (mVar 1) mNil))))) (msRet (mC (.bl false))) msNext) (msRet (mCall bAll (mCons (mLc (mRng1 (mCons (mCall bLen (mCons (mVar 1) mNil)) mNil)) (gvName 2) mYes (mCall rec (mCons (mOp dIx (mVar 0) (mVar 2)) (mCons (mOp dIx (mVar 1) (mVar 2)) mNil))) [2]) mNil)))) msNext) (msSeq (msIf (mTest (mIsi1 0 (fun a b => a == b) (mVar 1) (mC (.ty "int")))) (msRet (mAndV (mIsi1 0 (fun a b => a == b) (mVar 0) (mC (.ty "int"))) (mAndV (mNotV (mIsi1 0 (fun a b => a == b) (mVar 0) (mC (.ty "bool")))) (mOp dEq (mVar 0) (mVar 1))))) msNext) (msRet (mAndV (mIsi1 0 (fun a b => a == b) (mVar 0) (mC (.ty "str"))) (mOp dEq (mVar 0) (mVar 1))))))))
def m_law_same : Nat → List D → Store → Res D := mRec 3 b_law_same

/-! ### reading mirrors, step by step -/
section
variable {env env1 : DEnv} {st st1 st2 st3 : Store} {a b c o : ME} {ma : MA} {f : D → D → Store → Res D} {g : D → Store → Res D} {h : List D → Store → Res D} {x y z d : D} {ds : List D} {mt mu : MT} {p q : Bool} {i : Nat} {r : Res D} {rb : Res Bool} {s : SRes} {m m2 : MS}
theorem e_var (h : env[i]? = some (some d)) : mVar i env st = .ok d st := by unfold mVar; rw [h]
theorem e_c : mC d env st = .ok d st := rfl
theorem e_op (ha : a env st = .ok x st1) (hb : b env st1 = .ok y st2) (hf : f x y st2 = r) : mOp f a b env st = r := by
  unfold mOp; rw [ha]; simp only [Res.bind]; rw [hb]; exact hf
theorem e_un (ha : a env st = .ok x st1) (hf : g x st1 = r) : mUn g a env st = r := by
  unfold mUn; rw [ha]; exact hf
theorem e_call (ha : ma env st = .ok ds st1) (hf : h ds st1 = r) : mCall h ma env st = r := by
  unfold mCall; rw [ha]; exact hf
theorem e_nil : mNil env st = .ok [] st := rfl
theorem e_cons (ha : a env st = .ok x st1) (hb : ma env st1 = .ok ds st2) : mCons a ma env st = .ok (x :: ds) st2 := by
  unfold mCons; rw [ha]; simp only [Res.bind]; rw [hb]
theorem e_test (ha : a env st = .ok (.bl p) st1) : mTest a env st = .ok p st1 := by
  unfold mTest; rw [ha]; rfl
theorem e_ift (hc : mt env st = .ok true st1) (ha : a env st1 = r) : mIf mt a b env st = r := by
  unfold mIf; rw [hc]; exact ha
theorem e_iff (hc : mt env st = .ok false st1) (ha : b env st1 = r) : mIf mt a b env st = r := by
  unfold mIf; rw [hc]; exact ha
theorem e_not (ha : mt env st = .ok p st1) : mNot mt env st = .ok (!p) st1 := by
  unfold mNot; rw [ha]; rfl
theorem e_andt (ha : mt env st = .ok true st1) (hb : mu env st1 = rb) : mAnd mt mu env st = rb := by
  unfold mAnd; rw [ha]; exact hb
theorem e_andf (ha : mt env st = .ok false st1) : mAnd mt mu env st = .ok false st1 := by
  unfold mAnd; rw [ha]; rfl
theorem e_ort (ha : mt env st = .ok true st1) : mOr mt mu env st = .ok true st1 := by
  unfold mOr; rw [ha]; rfl
theorem e_orf (ha : mt env st = .ok false st1) (hb : mu env st1 = rb) : mOr mt mu env st = rb := by
  unfold mOr; rw [ha]; exact hb
theorem e_andVt (ha : a env st = .ok (.bl true) st1) (hb : b env st1 = r) : mAndV a b env st = r := by
  unfold mAndV; rw [ha]; exact hb
theorem e_andVf (ha : a env st = .ok (.bl false) st1) : mAndV a b env st = .ok (.bl false) st1 := by
  unfold mAndV; rw [ha]; rfl
theorem e_orVt (ha : a env st = .ok (.bl true) st1) : mOrV a b env st = .ok (.bl true) st1 := by
  unfold mOrV; rw [ha]; rfl
theorem e_orVf (ha : a env st = .ok (.bl false) st1) (hb : b env st1 = r) : mOrV a b env st = r := by
  unfold mOrV; rw [ha]; exact hb
theorem e_notV (ha : a env st = .ok (.bl p) st1) : mNotV a env st = .ok (.bl (!p)) st1 := by
  unfold mNotV; rw [ha]; rfl
theorem e_lstM (ha : ma env st = .ok ds st1) (hf : okLstM ds st1 = r) : mLstM ma env st = r := e_call ha hf
theorem e_lst (ha : ma env st = .ok ds st1) (hf : okLst ds st1 = r) : mLst ma env st = r := e_call ha hf
theorem e_tup (ha : ma env st = .ok ds st1) (hf : okTup ds st1 = r) : mTup ma env st = r := e_call ha hf
theorem e_pn : mPn env st = .ok none st := rfl
theorem e_ps {n : Int} (ha : a env st = .ok (.int n) st1) : mPs a env st = .ok (some n) st1 := by
  unfold mPs; rw [ha]; rfl
theorem e_sl {ml mh : MO_} {lo hi : Option Int} (ha : a env st = .ok x st1) (hl : ml env st1 = .ok lo st2) (hh : mh env st2 = .ok hi st3) (hf : dSl x lo hi st3 = r) : mSl a ml mh env st = r := by
  unfold mSl; rw [ha]; simp only [Res.bind]; rw [hl]; simp only []; rw [hh]; exact hf
theorem s_seq (ha : m env st = .fl (.nx env1) st1) (hb : m2 env1 st1 = s) : msSeq m m2 env st = s := by
  unfold msSeq; rw [ha]; exact hb
theorem s_set {d : D} (ha : a env st = .ok d st1) : msSet i a env st = .fl (.nx (env.set i (some d))) st1 := by
  unfold msSet; rw [ha]; rfl
theorem s_ret (ha : a env st = .ok d st1) : msRet a env st = .fl (.rt d) st1 := by
  unfold msRet; rw [ha]; rfl
theorem s_drop (ha : a env st = .ok d st1) : msDrop a env st = .fl (.nx env) st1 := by
  unfold msDrop; rw [ha]; rfl
theorem s_ift (hc : mt env st = .ok true st1) (ha : m env st1 = s) : msIf mt m m2 env st = s := by
  unfold msIf; rw [hc]; exact ha
theorem s_iff (hc : mt env st = .ok false st1) (ha : m2 env st1 = s) : msIf mt m m2 env st = s := by
  unfold msIf; rw [hc]; exact ha
theorem s_next : msNext env st = .fl (.nx env) st := rfl
/-- a return ends what stands behind it -/
theorem s_seqR (ha : m env st = .fl (.rt d) st1) : msSeq m m2 env st = .fl (.rt d) st1 := by
  unfold msSeq; rw [ha]
theorem s_setIx {ds : List D} {k : Int} {n j : Nat} (ha : a env st = .ok x st1) (hb : b env st1 = .ok (.box j) st2) (hc : c env st2 = .ok (.int k) st3) (hj : st3[j]? = some (.lst ds)) (hn : ixN ds.length k = some n) (hx : x.low j = true) :
    msSetIx a b c env st = .fl (.nx env) (st3.set j (.lst (ds.set n x))) := by
  unfold msSetIx
  rw [ha]; simp only [Res.to]; rw [hb]; simp only []; rw [hc]
  unfold dSetIx
  simp only [hj, hn, hx, if_true]
theorem d_nx {n : Nat} {ds : List D} {env1 : DEnv} (h : m (startD n ds) st = .fl (.nx env1) st1) : mDef n m ds st = .ok .non (st1.take st.length) := by
  unfold mDef; rw [h]
theorem d_rt {n : Nat} {ds : List D} (h : m (startD n ds) st = .fl (.rt d) st1) : mDef n m ds st = .ok (fz st.length st1 d) (st1.take st.length) := by
  unfold mDef; rw [h]
/-- flat: no box in it -/
def flatD : D → Bool
  | .non => true
  | .bl _ => true
  | .int _ => true
  | .str _ => true
  | _ => false
theorem d_flat {n : Nat} {ds : List D} (h : m (startD n ds) st = .fl (.rt d) st1) (hd : flatD d = true) (hl : st1.length = st.length) : mDef n m ds st = .ok d st1 := by
  rw [d_rt h, ← hl, List.take_length]
  cases d <;> first | rfl | cases hd
theorem d_nxL {n : Nat} {ds : List D} {env1 : DEnv} (h : m (startD n ds) st = .fl (.nx env1) st1) (hl : st1.length = st.length) : mDef n m ds st = .ok .non st1 := by
  rw [d_nx h, ← hl, List.take_length]
/-! leaves -/
theorem ix_box {j : Nat} {ds : List D} {k : Int} (hj : st[j]? = some (.lst ds)) (hn : atI ds k = some x) : dIx (.box j) (.int k) st = .ok x st := by
  unfold dIx vw; simp only [hj, hn]
theorem ix_scr {ds : List D} {k : Int} (hn : atI ds k = some x) : dIx (.scr ds) (.int k) st = .ok x st := by
  unfold dIx vw; simp only [hn]
theorem mul_r {i j : Int} (h : j.natAbs < 2 ^ 63) : dMul (.int i) (.int j) st = .ok (.int (i * j)) st := by
  unfold dMul dInt mulOk; simp only [decide_eq_true h, Bool.or_true, if_true]
theorem mul_l {i j : Int} (h : i.natAbs < 2 ^ 63) : dMul (.int i) (.int j) st = .ok (.int (i * j)) st := by
  unfold dMul dInt mulOk; simp only [decide_eq_true h, Bool.true_or, if_true]
theorem mod_ok {i j : Int} (h : 0 < j) : dMod (.int i) (.int j) st = .ok (.int (i % j)) st := by
  unfold dMod dInt; simp only [decide_eq_true h, if_true]
theorem fdiv_ok {i j : Int} (h : 0 < j) (h2 : j < 1073741824) : dFdiv (.int i) (.int j) st = .ok (.int (i / j)) st := by
  unfold dFdiv dInt; simp only [decide_eq_true h, decide_eq_true h2, Bool.and_true, if_true]
theorem ints_map : ∀ S : List Int, D.ints (S.map .int) = some S
  | [] => rfl
  | s :: S => by
    show (D.ints (S.map .int)).map _ = _
    rw [ints_map S]; rfl
end
theorem set_same {st : Store} {i : Nat} {a b : MO} : (st.set i a).set i b = st.set i b := by simp
theorem get_set {st : Store} {i : Nat} {a b : MO} (h : st[i]? = some a) : (st.set i b)[i]? = some b := by
  have hi := (List.getElem?_eq_some_iff.mp h).1
  simp [hi]
local macro_rules | `(tactic| infer_instance) => `(tactic| rfl)
local macro_rules | `(tactic| infer_instance) => `(tactic| exact mod_ok (by first | assumption | decide | omega))
local macro_rules | `(tactic| infer_instance) => `(tactic| exact fdiv_ok (by first | assumption | decide | omega) (by first | assumption | decide | omega))
theorem emod_small {x m : Int} (h : 0 < m) (h2 : m < 9223372036854775808) : (x % m).natAbs < 2 ^ 63 := by
  have a := Int.emod_nonneg x (show m ≠ 0 by omega)
  have b := Int.emod_lt_of_pos x h
  omega
local macro_rules | `(tactic| infer_instance) => `(tactic| first | exact mul_r (by decide) | exact mul_l (by decide) | exact mul_l (emod_small (by decide) (by decide)))
local macro_rules | `(tactic| decreasing_tactic) => `(tactic| first | assumption | (apply get_set; decreasing_tactic))
local macro_rules | `(tactic| infer_instance) => `(tactic| exact ix_box (by decreasing_tactic) rfl)
local macro_rules | `(tactic| infer_instance) => `(tactic| decreasing_tactic)
theorem lt_ok {st : Store} {i j : Int} {b : Bool} (h : decide (i < j) = b) : dLt (.int i) (.int j) st = .ok (.bl b) st := by
  subst h; rfl
theorem gt_ok {st : Store} {i j : Int} {b : Bool} (h : decide (j < i) = b) : dGt (.int i) (.int j) st = .ok (.bl b) st := by
  subst h; rfl
theorem ge_ok {st : Store} {i j : Int} {b : Bool} (h : decide (j ≤ i) = b) : dGe (.int i) (.int j) st = .ok (.bl b) st := by
  subst h; rfl
theorem le_ok {st : Store} {i j : Int} {b : Bool} (h : decide (i ≤ j) = b) : dLe (.int i) (.int j) st = .ok (.bl b) st := by
  subst h; rfl
local macro_rules | `(tactic| infer_instance) => `(tactic| first | exact lt_ok (by first | exact decide_eq_true (by first | assumption | omega) | exact decide_eq_false (by first | assumption | omega)) | exact gt_ok (by first | exact decide_eq_true (by first | assumption | omega) | exact decide_eq_false (by first | assumption | omega)) | exact ge_ok (by first | exact decide_eq_true (by first | assumption | omega) | exact decide_eq_false (by first | assumption | omega)) | exact le_ok (by first | exact decide_eq_true (by first | assumption | omega) | exact decide_eq_false (by first | assumption | omega)))
local macro_rules | `(tactic| nofun) => `(tactic| repeat contradiction)
local macro_rules | `(tactic| contradiction) => `(tactic| first
  | exact e_var rfl | exact e_c | exact e_nil | exact e_pn | exact s_next
  | apply e_op | apply e_un | apply e_call | apply e_cons | apply e_test | apply e_ps | apply e_sl | apply e_not | apply e_notV | apply e_lstM | apply e_lst | apply e_tup
  | apply s_seq | apply s_setIx | apply s_set | apply s_ret | apply s_drop
  | (apply e_ift; focus (nofun; done)) | (apply e_iff; focus (nofun; done))
  | infer_instance)
/-- the source's state -/
abbrev srcO (S : List Int) (k : Nat) (a b c : Int) : MO := .lst [.scr (S.map .int), .int k, .int a, .int b, .int c]
def SrcAt (st : Store) (i : Nat) : Prop := ∃ S k a b c, st[i]? = some (srcO S k a b c) ∧ 0 ≤ a
/-- the source turned on, nothing else -/
def Adv (i : Nat) (st st' : Store) : Prop := ∃ S k a b c, st' = st.set i (srcO S k a b c) ∧ 0 ≤ a
theorem Adv.src {i : Nat} {st st' : Store} (h : Adv i st st') (s : SrcAt st i) : SrcAt st' i := by
  obtain ⟨S, k, a, b, c, rfl, h0⟩ := h
  obtain ⟨S', k', a', b', c', e, _⟩ := s
  exact ⟨S, k, a, b, c, get_set e, h0⟩
theorem Adv.trans {i : Nat} {a b c : Store} (h : Adv i a b) (g : Adv i b c) : Adv i a c := by
  obtain ⟨_, _, _, _, _, rfl, _⟩ := h
  obtain ⟨S, k, a', b', c', rfl, h0⟩ := g
  exact ⟨S, k, a', b', c', set_same, h0⟩
theorem Adv.refl {i : Nat} {st : Store} (s : SrcAt st i) : Adv i st st := by
  obtain ⟨S, k, a, b, c, e, h0⟩ := s
  obtain ⟨hi, he⟩ := List.getElem?_eq_some_iff.mp e
  exact ⟨S, k, a, b, c, by rw [← he, List.set_getElem_self], h0⟩
theorem Adv.len {i : Nat} {st st' : Store} (h : Adv i st st') : st'.length = st.length := by
  obtain ⟨S, k, a, b, c, rfl, _⟩ := h
  simp
theorem Adv.take {i : Nat} {st st' : Store} (h : Adv i st st') : st'.take st.length = st' := by rw [← h.len, List.take_length]
theorem ix_cell {S : List Int} {k : Nat} (h : k < S.length) : ∃ z : Int, atI (S.map D.int) (k : Int) = some (.int z) := by
  refine ⟨S[k], ?_⟩
  unfold atI ixN
  simp [h]
theorem pick_ok {st : Store} {i : Nat} {n : Int} (s : SrcAt st i) (h0 : 0 < n) (h1 : n < 1000000) : ∃ st' k, m_law_pick [.box i, .int n] st = .ok (.int k) st' ∧ 0 ≤ k ∧ k < n ∧ Adv i st st' := by
  obtain ⟨S, k, a, b, c, e, hn⟩ := s
  have h2 : n < 1073741824 := by omega
  by_cases ha : 0 < a
  · have run : b_law_pick (startD 6 [.box i, .int n]) st = .fl (.rt (.int (a % n))) (st.set i (srcO S k (a / n) b c)) := by
      refine s_seqR (s_ift (e_test (e_op (st1 := st) ?_ ?_ (gt_ok (st := st) (decide_eq_true ha)))) ?_)
      · nofun
      · nofun
      · nofun
    exact ⟨_, _, d_flat run rfl (by simp), Int.emod_nonneg _ (by omega), Int.emod_lt_of_pos _ h0, S, k, a / n, b, c, rfl, Int.ediv_nonneg hn (by omega)⟩
  · obtain ⟨r, run⟩ : ∃ r, b_law_pick (startD 6 [.box i, .int n]) st = .fl (.rt (.int (r % n))) (st.set i (srcO S k a b (c + 1))) := by
      apply Exists.intro
      refine s_seq (s_iff (e_test (e_op (st1 := st) ?_ ?_ (gt_ok (st := st) (decide_eq_false ha)))) s_next) ?_
      · nofun
      · nofun
      · nofun
    exact ⟨_, _, d_flat run rfl (by simp), Int.emod_nonneg _ (by omega), Int.emod_lt_of_pos _ h0, S, k, a, b, c + 1, rfl, hn⟩
theorem abs_ok {st : Store} {z : Int} : bAbs [.int z] st = .ok (.int (if z < 0 then -z else z)) st := rfl
theorem len_scr {st : Store} {ds : List D} : bLen [.scr ds] st = .ok (.int ds.length) st := rfl
theorem sl1_scr {st : Store} {ds : List D} : dSl (.scr ds) none (some 1) st = .ok (.lst (cutD ds none (some 1))) st := rfl
theorem cut_map {S : List Int} {lo hi : Option Int} : cutD (S.map D.int) lo hi = (cutD S lo hi).map .int := by
  unfold cutD
  rw [List.length_map, ← List.map_drop, ← List.map_take]
theorem sum_ok {st : Store} {S : List Int} : bSum [.lst (S.map .int)] st = .ok (.int S.sum) st := by
  show (match D.ints (S.map .int) with | some bs => Res.ok (D.int bs.sum) st | none => Res.stuck) = _
  rw [ints_map]
theorem sl_scr {st : Store} {S : List Int} : dSl (.scr (S.map .int)) none (some 1) st = .ok (.lst ((cutD S none (some 1)).map .int)) st := by
  rw [sl1_scr, cut_map]
theorem next_ok {st : Store} {i : Nat} (s : SrcAt st i) : ∃ st', m_law_next [.box i] st = .ok .non st' ∧ Adv i st st' := by
  obtain ⟨S, k, a, b, c, e, hn⟩ := s
  have cell : ∃ z : Int, mIf (mTest (mOp dLt (mVar 2) (mCall bLen (mCons (mVar 1) mNil)))) (mOp dIx (mVar 1) (mVar 2)) (mOp dMod (mCall bInt (mCons (mOp dAdd (mCall bSum (mCons (mSl (mVar 1) mPn (mPs (mC (.int 1)))) mNil)) (mOp dMul (mC (.int 31)) (mVar 2))) mNil)) (mC (.int 1000003)))
      [some (.box i), some (.scr (S.map .int)), some (.int k), none] st = .ok (.int z) st := by
    by_cases h : (k : Int) < ((S.map D.int).length : Int)
    · obtain ⟨z, hz⟩ := ix_cell (S := S) (k := k) (by simpa using h)
      refine ⟨z, e_ift (st1 := st) (e_test (e_op (st1 := st) (e_var rfl) (e_call (st1 := st) (e_cons (e_var rfl) e_nil) len_scr) (lt_ok (decide_eq_true h)))) (e_op (st1 := st) (e_var rfl) (e_var rfl) (ix_scr hz))⟩
    · apply Exists.intro
      refine e_iff (st1 := st) (e_test (e_op (st1 := st) (e_var rfl) (e_call (st1 := st) (e_cons (e_var rfl) e_nil) len_scr) (lt_ok (decide_eq_false h)))) ?_
      apply e_op
      · apply e_call
        · apply e_cons
          · apply e_op
            · apply e_call
              · apply e_cons
                · apply e_sl (e_var rfl) e_pn (e_ps e_c) sl_scr
                · exact e_nil
              · exact sum_ok
            · nofun
            · nofun
          · nofun
        · rfl
      · nofun
      · nofun
  obtain ⟨z, hz⟩ := cell
  have big : ∃ A : Int, 0 ≤ A ∧ ∀ st1, mIf (mTest (mOp dGe (mCall bAbs (mCons (mVar 3) mNil)) (mOp dPow (mC (.int 10)) (mC (.int 18))))) (mOp dAdd (mCall bAbs (mCons (mVar 3) mNil)) (mCall bInt (mCons (mOp dLt (mVar 3) (mC (.int 0))) mNil))) (mC (.int 0))
      [some (.box i), some (.scr (S.map .int)), some (.int k), some (.int z)] st1 = .ok (.int A) st1 := by
    have ab : (0 : Int) ≤ (if z < 0 then -z else z) := by split <;> omega
    by_cases h : (10 : Int) ^ (18 : Int).toNat ≤ (if z < 0 then -z else z)
    · refine ⟨(if z < 0 then -z else z) + (if decide (z < 0) = true then 1 else 0), by split <;> split <;> omega, fun st1 => ?_⟩
      refine e_ift (st1 := st1) (e_test (e_op (st1 := st1) (e_call (st1 := st1) (e_cons (e_var rfl) e_nil) abs_ok) (e_op (st1 := st1) e_c e_c rfl) (ge_ok (decide_eq_true h)))) ?_
      exact e_op (st1 := st1) (e_call (st1 := st1) (e_cons (e_var rfl) e_nil) abs_ok) (e_call (st1 := st1) (e_cons (e_op (st1 := st1) (e_var rfl) e_c (lt_ok rfl)) e_nil) rfl) rfl
    · refine ⟨0, by omega, fun st1 => ?_⟩
      exact e_iff (st1 := st1) (e_test (e_op (st1 := st1) (e_call (st1 := st1) (e_cons (e_var rfl) e_nil) abs_ok) (e_op (st1 := st1) e_c e_c rfl) (ge_ok (decide_eq_false h)))) e_c
  obtain ⟨A, hA, hb⟩ := big
  obtain ⟨env1, X, run, B, hX⟩ : ∃ env1 X, b_law_next (startD 4 [.box i]) st = .fl (.nx env1) X ∧ ∃ B, X = st.set i (srcO S (k + 1) A B 0) := by
    apply Exists.intro
    apply Exists.intro
    refine And.intro ?_ ?_
    · apply s_seq
      · nofun
      apply s_seq
      · nofun
      apply s_seq
      · exact s_set hz
      apply s_seq
      · nofun
      apply s_seq
      · apply s_setIx (hb _)
        all_goals nofun
      · nofun
    · exact ⟨z % 2147483629 + 17 * (k + 1), by rw [set_same, set_same, set_same]; rfl⟩
  subst hX
  exact ⟨_, d_nxL run (by simp), S, k + 1, A, B, 0, rfl, hA⟩
end Draw
end
section
set_option Elab.async false
set_option linter.all false
set_option maxRecDepth 100000
set_option maxHeartbeats 4000000
namespace Draw
open PySem L2 DL

/-! ### no box within: what stays as it is -/
section
variable {f : Nat → D}
mutual
theorem sub_id : ∀ (d : D), d.low 0 = true → d.sub f = d
  | .non, _ => rfl
  | .bl _, _ => rfl
  | .int _, _ => rfl
  | .str _, _ => rfl
  | .ty _, _ => rfl
  | .cls _, _ => rfl
  | .tup xs, h => congrArg D.tup (subs_id xs h)
  | .ptp xs, h => congrArg D.ptp (subs_id xs h)
  | .lst xs, h => congrArg D.lst (subs_id xs h)
  | .scr xs, h => congrArg D.scr (subs_id xs h)
  | .dic kvs, h => congrArg D.dic (subK_id kvs h)
  | .obj c fs, h => congrArg (D.obj c) (subF_id fs h)
  | .box i, h => by
    have h' : decide (i < 0) = true := h
    simp at h'
theorem subs_id : ∀ (ds : List D), D.lows 0 ds = true → D.subs f ds = ds
  | [], _ => rfl
  | d :: ds, h => by
    have h' : (D.low 0 d && D.lows 0 ds) = true := h
    rw [Bool.and_eq_true] at h'
    show D.sub f d :: D.subs f ds = _
    rw [sub_id d h'.1, subs_id ds h'.2]
theorem subK_id : ∀ (ds : List (Key × D)), D.lowK 0 ds = true → D.subK f ds = ds
  | [], _ => rfl
  | (k, d) :: ds, h => by
    have h' : (D.low 0 d && D.lowK 0 ds) = true := h
    rw [Bool.and_eq_true] at h'
    show (k, D.sub f d) :: D.subK f ds = _
    rw [sub_id d h'.1, subK_id ds h'.2]
theorem subF_id : ∀ (ds : List (Str × D)), D.lowF 0 ds = true → D.subF f ds = ds
  | [], _ => rfl
  | (k, d) :: ds, h => by
    have h' : (D.low 0 d && D.lowF 0 ds) = true := h
    rw [Bool.and_eq_true] at h'
    show (k, D.sub f d) :: D.subF f ds = _
    rw [sub_id d h'.1, subF_id ds h'.2]
end
mutual
theorem low_up {n : Nat} : ∀ (d : D), d.low 0 = true → d.low n = true
  | .non, _ => rfl
  | .bl _, _ => rfl
  | .int _, _ => rfl
  | .str _, _ => rfl
  | .ty _, _ => rfl
  | .cls _, _ => rfl
  | .tup xs, h => lows_up (n := n) xs h
  | .ptp xs, h => lows_up (n := n) xs h
  | .lst xs, h => lows_up (n := n) xs h
  | .scr xs, h => lows_up (n := n) xs h
  | .dic kvs, h => lowK_up (n := n) kvs h
  | .obj c fs, h => lowF_up (n := n) fs h
  | .box i, h => by
    have h' : decide (i < 0) = true := h
    simp at h'
theorem lows_up {n : Nat} : ∀ (ds : List D), D.lows 0 ds = true → D.lows n ds = true
  | [], _ => rfl
  | d :: ds, h => by
    have h' : (D.low 0 d && D.lows 0 ds) = true := h
    rw [Bool.and_eq_true] at h'
    show (D.low n d && D.lows n ds) = true
    rw [low_up d h'.1, lows_up ds h'.2]; rfl
theorem lowK_up {n : Nat} : ∀ (ds : List (Key × D)), D.lowK 0 ds = true → D.lowK n ds = true
  | [], _ => rfl
  | (k, d) :: ds, h => by
    have h' : (D.low 0 d && D.lowK 0 ds) = true := h
    rw [Bool.and_eq_true] at h'
    show (D.low n d && D.lowK n ds) = true
    rw [low_up d h'.1, lowK_up ds h'.2]; rfl
theorem lowF_up {n : Nat} : ∀ (ds : List (Str × D)), D.lowF 0 ds = true → D.lowF n ds = true
  | [], _ => rfl
  | (k, d) :: ds, h => by
    have h' : (D.low 0 d && D.lowF 0 ds) = true := h
    rw [Bool.and_eq_true] at h'
    show (D.low n d && D.lowF n ds) = true
    rw [low_up d h'.1, lowF_up ds h'.2]; rfl
end
end
theorem lows_all {n : Nat} : ∀ {ds : List D}, (∀ d ∈ ds, d.low n = true) → D.lows n ds = true
  | [], _ => rfl
  | d :: ds, h => by
    show (D.low n d && D.lows n ds) = true
    rw [h d List.mem_cons_self, lows_all fun x hx => h x (List.mem_cons_of_mem _ hx)]; rfl
theorem lows_mem {n : Nat} : ∀ {ds : List D} {d : D}, D.lows n ds = true → d ∈ ds → d.low n = true
  | x :: ds, d, h, m => by
    have h' : (D.low n x && D.lows n ds) = true := h
    rw [Bool.and_eq_true] at h'
    rcases List.mem_cons.mp m with e | m
    · rw [e]; exact h'.1
    · exact lows_mem h'.2 m
section
variable {m : MS} {st st1 st2 : Store} {d : D} {n : Nat} {ds : List D}
/-- a def that hands back what holds no box -/
theorem d_low (h : m (startD n ds) st = .fl (.rt d) st1) (hd : d.low 0 = true) (hl : st1.length = st.length) : mDef n m ds st = .ok d st1 := by
  rw [d_rt h, ← hl, List.take_length]
  show Res.ok (D.sub _ d) st1 = _
  rw [sub_id d hd]
theorem fzAll_len {k : Nat} : ∀ (st : Store) (acc : List D), (fzAll k st acc).length = acc.length + st.length
  | [], acc => rfl
  | mo :: r, acc => by
    show (fzAll k r (acc ++ [_])).length = _
    rw [fzAll_len r, List.length_append, List.length_singleton, List.length_cons]; omega
theorem fzAll_app {k : Nat} {mo : MO} : ∀ (st : Store) (acc : List D), fzAll k (st ++ [mo]) acc = fzAll k st acc ++ [if (fzAll k st acc).length < k then .box (fzAll k st acc).length else mo.sub fun j => (fzAll k st acc).getD j .non]
  | [], acc => rfl
  | o :: r, acc => by
    show fzAll k (r ++ [mo]) (acc ++ [_]) = _
    rw [fzAll_app r]; rfl
/-- a def that hands back one new list, its items without boxes -/
theorem d_new {xs : List D} (h : m (startD n ds) st = .fl (.rt (.box st2.length)) (st2 ++ [.lst xs])) (hx : D.lows 0 xs = true) (hl : st2.length = st.length) : mDef n m ds st = .ok (.lst xs) st2 := by
  rw [d_rt h, ← hl]
  have e1 : (st2 ++ [MO.lst xs]).take st2.length = st2 := by simp
  rw [e1]
  have e2 : fz st2.length (st2 ++ [.lst xs]) (.box st2.length) = .lst xs := by
    show (fzAll st2.length (st2 ++ [.lst xs]) []).getD st2.length .non = _
    have hlen : (fzAll st2.length st2 []).length = st2.length := by rw [fzAll_len]; simp
    rw [fzAll_app, hlen, List.getD_eq_getElem?_getD, List.getElem?_append_right (by omega), hlen, Nat.sub_self]
    simp only [Nat.lt_irrefl, if_false, List.getElem?_cons_zero, Option.getD_some]
    show D.lst (D.subs _ xs) = _
    rw [subs_id xs hx]
  rw [e2]
end

/-! ### comprehensions, loops -/
section
variable {g : MG} {t : MT} {m : ME} {env : DEnv} {P : Store → Prop} {mi : MI} {vs : List Nat} {st st1 st2 : Store} {ys : List D}
theorem e_lc {ds : List D} (hi : mi env st = .ok (.fix ds) st1) (hl : ds.length ≤ lim) (hg : lcGo g t m ds (wipeD env vs) st1 = .ok ys st2) : mLc mi g t m vs env st = .ok (.lst ys) st2 := by
  unfold mLc
  rw [hi]
  simp only [Res.bind, lcSrc, hl, if_true]
  rw [hg]
/-- each item is made, the store perhaps changed -/
theorem lc_inv {R : D → D → Prop} : ∀ {ds : List D} {st : Store}, (∀ d st, d ∈ ds → P st → ∃ env1 y st', g d env st = some env1 ∧ m env1 st = .ok y st' ∧ P st' ∧ R d y) → P st →
    ∃ ys st', lcGo g mYes m ds env st = .ok ys st' ∧ P st' ∧ ys.length = ds.length ∧ ∀ (i : Nat) d y, ds[i]? = some d → ys[i]? = some y → R d y
  | [], st, _, p => ⟨[], st, rfl, p, rfl, fun i d y h => by simp at h⟩
  | d :: ds, st, h, p => by
    obtain ⟨env1, y, st', h1, h2, p', r⟩ := h d st List.mem_cons_self p
    obtain ⟨ys, st2, e, p2, hl, hr⟩ := lc_inv (ds := ds) (st := st') (fun d st hd => h d st (List.mem_cons_of_mem _ hd)) p'
    refine ⟨y :: ys, st2, ?_, p2, by rw [List.length_cons, List.length_cons, hl], fun i d' y' hd hy => ?_⟩
    · show (match g d env st with
        | none => Res.stuck
        | some env1 => _) = _
      rw [h1]
      simp only [mYes, Res.nox, Res.bind, if_true, h2, e]
    · cases i with
      | zero => simp at hd hy; subst hd; subst hy; exact r
      | succ i => exact hr i d' y' (by simpa using hd) (by simpa using hy)
/-- each item a function of its own, nothing changed -/
theorem lc_map {f : D → D} : ∀ {ds : List D}, (∀ d, d ∈ ds → ∃ env1, g d env st = some env1 ∧ m env1 st = .ok (f d) st) → lcGo g mYes m ds env st = .ok (ds.map f) st
  | [], _ => rfl
  | d :: ds, h => by
    obtain ⟨env1, h1, h2⟩ := h d List.mem_cons_self
    show (match g d env st with
      | none => Res.stuck
      | some env1 => _) = _
    rw [h1]
    simp only [mYes, Res.nox, Res.bind, if_true, h2, lc_map (ds := ds) fun d hd => h d (List.mem_cons_of_mem _ hd), List.map_cons]
/-- .. of those that pass -/
theorem lc_filter {f : D → D} {p : D → Bool} : ∀ {ds : List D}, (∀ d, d ∈ ds → ∃ env1, g d env st = some env1 ∧ t env1 st = .ok (p d) st ∧ (p d = true → m env1 st = .ok (f d) st)) → lcGo g t m ds env st = .ok ((ds.filter p).map f) st
  | [], _ => rfl
  | d :: ds, h => by
    obtain ⟨env1, h1, h2, h3⟩ := h d List.mem_cons_self
    have ih := lc_filter (ds := ds) fun d hd => h d (List.mem_cons_of_mem _ hd)
    show (match g d env st with
      | none => Res.stuck
      | some env1 => _) = _
    rw [h1]
    cases hp : p d with
    | true => simp only [Res.nox, Res.bind, h2, hp, if_true, h3 hp, ih, List.filter_cons, List.map_cons]
    | false => simp [Res.nox, Res.bind, h2, hp, ih, List.filter_cons]
end
section
variable {b : D → MS} {P : List D → DEnv → Store → Prop}
/-- a loop over given items: P tells what holds with these items left -/
theorem for_inv : ∀ {ds : List D} {env : DEnv} {st : Store}, (∀ d ds env st, P (d :: ds) env st → ∃ env1 st1, (b d env st = .fl (.nx env1) st1 ∨ b d env st = .fl (.ct env1) st1) ∧ P ds env1 st1) → P ds env st →
    ∃ env1 st1, forFix b ds env st = .fl (.nx env1) st1 ∧ P [] env1 st1
  | [], env, st, _, p => ⟨env, st, rfl, p⟩
  | d :: ds, env, st, h, p => by
    obtain ⟨env1, st1, h1, p1⟩ := h d ds env st p
    obtain ⟨env2, st2, h2, p2⟩ := for_inv h p1
    refine ⟨env2, st2, ?_, p2⟩
    show (match b d env st with
      | .fl (.nx env1) st1 => forFix b ds env1 st1
      | .fl (.ct env1) st1 => forFix b ds env1 st1
      | .fl (.bk env1) st1 => .fl (.nx env1) st1
      | r => r) = _
    rcases h1 with h1 | h1 <;> rw [h1] <;> exact h2
theorem s_for {mi : MI} {g : MG} {mb : MS} {env : DEnv} {st st1 : Store} {ds : List D} {r : SRes} (hi : mi env st = .ok (.fix ds) st1) (hf : forFix (stepF g mb) ds env st1 = r) : msFor mi g mb env st = r := by
  unfold msFor
  rw [hi]
  exact hf
end

/-! ### the small helpers -/
theorem lows_ints {n : Nat} : ∀ S : List Int, D.lows n (S.map .int) = true
  | [] => rfl
  | s :: S => lows_ints (n := n) S
theorem source_ok {st : Store} {S : List Int} {k : Nat} : m_law_source [.scr (S.map .int), .int k] st = .ok (.box st.length) (st ++ [srcO S k 0 0 0]) := by
  have e : (mCons (mVar 0) (mCons (mVar 1) (mCons (mC (.int 0)) (mCons (mC (.int 0)) (mCons (mC (.int 0)) mNil))))) (startD 2 [.scr (S.map .int), .int k]) st = .ok [.scr (S.map .int), .int k, .int 0, .int 0, .int 0] st :=
    e_cons (e_var rfl) (e_cons (e_var rfl) (e_cons e_c (e_cons e_c (e_cons e_c e_nil))))
  have run : b_law_source (startD 2 [.scr (S.map .int), .int k]) st = .fl (.rt (.box st.length)) (st ++ [srcO S k 0 0 0]) := by
    refine s_ret (e_lstM e ?_)
    have h1 : ([D.scr (S.map .int), .int k, .int 0, .int 0, .int 0]).length ≤ sizeLine := by rw [sizeLine_eq]; show 5 ≤ _; decide
    have h2 : D.lows st.length [D.scr (S.map .int), .int k, .int 0, .int 0, .int 0] = true := by
      show (D.lows st.length (S.map .int) && true) = true
      rw [lows_ints]; rfl
    unfold okLstM
    rw [if_pos ⟨h1, h2⟩]
  unfold m_law_source mDefB
  rw [run]
theorem one_in_ok {st : Store} {i : Nat} {n : Int} (s : SrcAt st i) (h0 : 0 < n) (h1 : n < 1000000) : ∃ st' b, m_law_one_in [.box i, .int n] st = .ok (.bl b) st' ∧ Adv i st st' := by
  obtain ⟨st', k, e, k0, k1, ad⟩ := pick_ok s h0 h1
  have q : dEq (.int k) (.int 0) st' = .ok (.bl (k == 0)) st' := rfl
  exact ⟨st', k == 0, d_flat (s_ret (e_op (x := .int k) (y := .int 0) (st1 := st') (st2 := st') (e_call (e_cons (e_var rfl) (e_cons (e_var rfl) e_nil)) e) e_c q)) rfl ad.len, ad⟩

theorem az_eq : ("abcdefghijklmnopqrstuvwxyz" : Str) = ⟨#[97,98,99,100,101,102,103,104,105,106,107,108,109,110,111,112,113,114,115,116,117,118,119,120,121,122]⟩ := by decide +kernel
def azL : List Nat := [97,98,99,100,101,102,103,104,105,106,107,108,109,110,111,112,113,114,115,116,117,118,119,120,121,122]
theorem letters : ∀ j : Fin 26, atI azL (j.val : Int) = some (97 + j.val) := by decide +kernel
theorem letter_ok {st : Store} {k : Int} : ∃ c, 97 ≤ c ∧ c ≤ 122 ∧ m_law_letter [.int k] st = .ok (.str (oneSign c)) st := by
  have h0 := Int.emod_nonneg k (show (26 : Int) ≠ 0 by decide)
  have h1 := Int.emod_lt_of_pos k (show (0 : Int) < 26 by decide)
  have hj : (k % 26).toNat < 26 := by omega
  have e := letters ⟨(k % 26).toNat, hj⟩
  have ek : (((k % 26).toNat : Nat) : Int) = k % 26 := Int.toNat_of_nonneg h0
  have e2 : atI azL (k % 26) = some (97 + (k % 26).toNat) := by rw [← ek]; exact e
  have q : dIx (.str ("abcdefghijklmnopqrstuvwxyz" : Str)) (.int (k % 26)) st = .ok (.str (oneSign (97 + (k % 26).toNat))) st := by
    rw [az_eq]
    unfold dIx
    simp only [vw]
    have hl : (Str.mk #[97,98,99,100,101,102,103,104,105,106,107,108,109,110,111,112,113,114,115,116,117,118,119,120,121,122]).length ≤ lim := by decide
    rw [if_pos hl]
    show (match atI azL (k % 26) with | some c => Res.ok (D.str (oneSign c)) st | none => Res.stuck) = _
    rw [e2]
  have idx : mOp dMod (mCall bInt (mCons (mVar 0) mNil)) (mC (.int 26)) (startD 1 [.int k]) st = .ok (.int (k % 26)) st :=
    e_op (e_call (e_cons (e_var rfl) e_nil) rfl) e_c (mod_ok (by decide))
  exact ⟨97 + (k % 26).toNat, by omega, by omega, d_flat (s_ret (e_op e_c idx q)) rfl rfl⟩
end Draw
end
section
set_option Elab.async false
set_option linter.all false
set_option maxRecDepth 100000
set_option maxHeartbeats 1000000
namespace Draw
open PySem L2 DL

/-! ### a thing of a row; words -/
/-- rows that are no boxes -/
def rowOf : D → Option (List D)
  | .tup ds => some ds
  | .ptp ds => some ds
  | .lst ds => some ds
  | .scr ds => some ds
  | _ => none
theorem row_vw {st : Store} {r : D} {ds : List D} (h : rowOf r = some ds) : ∃ b, vw st r = some (b, ds) := by
  cases r <;> first | (cases h; exact ⟨_, rfl⟩) | cases h
theorem len_row {st : Store} {r : D} {ds : List D} (h : rowOf r = some ds) : bLen [r] st = .ok (.int ds.length) st := by
  obtain ⟨b, e⟩ := row_vw (st := st) h
  unfold bLen
  simp only [e]
theorem ix_row {st : Store} {r x : D} {ds : List D} {k : Int} (h : rowOf r = some ds) (hx : atI ds k = some x) : dIx r (.int k) st = .ok x st := by
  obtain ⟨b, e⟩ := row_vw (st := st) h
  unfold dIx
  simp only [e, hx]
theorem atI_in {α : Type} {ds : List α} {k : Int} (h0 : 0 ≤ k) (h1 : k < ds.length) : ∃ x, atI ds k = some x ∧ ds[k.toNat]? = some x := by
  have hk : k.toNat < ds.length := by omega
  refine ⟨ds[k.toNat], ?_, List.getElem?_eq_getElem hk⟩
  unfold atI ixN
  rw [if_pos h0, if_pos h1]
  exact List.getElem?_eq_getElem hk
theorem one_of_ok {st : Store} {i : Nat} {r : D} {ds : List D} (s : SrcAt st i) (hr : rowOf r = some ds) (h0 : ds ≠ []) (h1 : ds.length < 1000000) (hl : D.lows 0 ds = true) :
    ∃ st' x, m_law_one_of [.box i, r] st = .ok x st' ∧ x ∈ ds ∧ Adv i st st' := by
  have hp : 0 < ds.length := List.length_pos_iff.mpr h0
  obtain ⟨st', k, e, k0, k1, ad⟩ := pick_ok (n := ds.length) s (by omega) (by omega)
  obtain ⟨x, hx, hm⟩ := atI_in k0 k1
  have mem := List.mem_of_getElem? hm
  have p1 : mCall m_law_pick (mCons (mVar 0) (mCons (mCall bLen (mCons (mVar 1) mNil)) mNil)) (startD 2 [.box i, r]) st = .ok (.int k) st' :=
    e_call (e_cons (e_var rfl) (e_cons (e_call (e_cons (e_var rfl) e_nil) (len_row hr)) e_nil)) e
  exact ⟨st', x, d_low (s_ret (e_op (e_var rfl) p1 (ix_row hr hx))) (lows_mem hl mem) ad.len, mem, ad⟩
/-- a text of n small letters -/
def Az (n : Nat) (y : Str) : Prop := y.cps.toList.length = n ∧ ∀ c ∈ y.cps.toList, 97 ≤ c ∧ c ≤ 122
def rangeD (n : Nat) : List D := (List.range n).map fun (i : Nat) => .int (0 + (i : Int))
theorem rangeD_len {n : Nat} : (rangeD n).length = n := by simp [rangeD]
theorem rng_ok {st st1 : Store} {n : Nat} {env : DEnv} {m : ME} (h : m env st = .ok (.int n) st1) (hn : n ≤ 1000000) : mRng1 (mCons m mNil) env st = .ok (.fix (rangeD n)) st1 := by
  unfold mRng1
  rw [e_cons h e_nil]
  simp only [Res.bind, rng1]
  rw [if_pos ⟨by omega, by omega⟩, Int.toNat_natCast]
  rfl
theorem joinL_nil : ∀ ys : List (List Nat), TL.joinL [] ys = ys.flatten
  | [] => rfl
  | [p] => by simp [TL.joinL]
  | p :: q :: r => by
    show p ++ ([] ++ TL.joinL [] (q :: r)) = _
    rw [joinL_nil (q :: r)]; simp
theorem join_flat (ys : List (List Nat)) : Txt.join (⟨#[]⟩ : Str) (ys.map SX.S) = SX.S ys.flatten := by
  have e := SX.join_S [] ys
  rw [joinL_nil] at e
  exact e
/-- texts of one small letter each -/
def OneAz (d : D) : Prop := ∃ c : Nat, d = .str (oneSign c) ∧ 97 ≤ c ∧ c ≤ 122
theorem ones_of : ∀ {ys : List D}, (∀ y ∈ ys, OneAz y) → ∃ cs : List Nat, ys = cs.map (fun c => D.str (oneSign c)) ∧ ∀ c ∈ cs, 97 ≤ c ∧ c ≤ 122
  | [], _ => ⟨[], rfl, fun c h => by simp at h⟩
  | y :: ys, h => by
    obtain ⟨c, e, hc⟩ := h y List.mem_cons_self
    obtain ⟨cs, e2, hcs⟩ := ones_of (ys := ys) fun z hz => h z (List.mem_cons_of_mem _ hz)
    refine ⟨c :: cs, by rw [e, e2]; rfl, fun x hx => ?_⟩
    rcases List.mem_cons.mp hx with rfl | hx
    · exact hc
    · exact hcs x hx
theorem strs_map : ∀ ys : List Str, D.strs (ys.map .str) = some ys
  | [] => rfl
  | y :: ys => by
    show (D.strs (ys.map .str)).map _ = _
    rw [strs_map ys]; rfl
theorem join_ones {st : Store} {cs : List Nat} (h : cs.length ≤ 1000000) : dJoin (.str ("" : Str)) (.lst (cs.map fun c => D.str (oneSign c))) st = .ok (.str (SX.S cs)) st := by
  have e0 : ("" : Str) = (⟨#[]⟩ : Str) := by decide +kernel
  have e1 : (cs.map fun c => D.str (oneSign c)) = ((cs.map fun c => [c]).map SX.S).map .str := by
    rw [List.map_map, List.map_map]; rfl
  have e2 : ((cs.map fun c => [c]).map SX.S).map (·.length) = cs.map fun _ => 1 := by
    rw [List.map_map, List.map_map]; rfl
  have e3 : ∀ l : List Nat, (l.map fun _ => 1).sum = l.length := fun l => by
    induction l with
    | nil => rfl
    | cons a l ih => simp [ih]; omega
  have e4 : ∀ l : List Nat, (l.map fun c => [c]).flatten = l := fun l => by
    induction l with
    | nil => rfl
    | cons a l ih => rw [List.map_cons, List.flatten_cons, ih]; rfl
  unfold dJoin
  rw [e0, e1]
  simp only [vw, strs_map]
  rw [e2, e3]
  have l0 : (⟨#[]⟩ : Str).length = 0 := rfl
  rw [l0, Nat.mul_zero, Nat.add_zero, if_pos (by unfold lim; exact h), join_flat, e4]
theorem word_ok {st : Store} {i : Nat} {n : Nat} (s : SrcAt st i) (h0 : 0 < n) (h1 : n < 1000) : ∃ st' y k, m_law_word [.box i, .int n] st = .ok (.str y) st' ∧ 1 ≤ k ∧ k ≤ n ∧ Az k y ∧ Adv i st st' := by
  obtain ⟨st1, k, e, k0, k1, ad⟩ := pick_ok (n := (n : Int)) s (by omega) (by omega)
  have ek : (1 + k : Int) = ((1 + k.toNat : Nat) : Int) := by omega
  have a1 : msSet 2 (mOp dAdd (mC (.int 1)) (mCall m_law_pick (mCons (mVar 0) (mCons (mVar 1) mNil)))) (startD 4 [.box i, .int n]) st = .fl (.nx [some (.box i), some (.int n), some (.int ((1 + k.toNat : Nat) : Int)), none]) st1 := by
    rw [← ek]
    exact s_set (e_op e_c (e_call (e_cons (e_var rfl) (e_cons (e_var rfl) e_nil)) e) rfl)
  obtain ⟨ys, st2, g, ad2, hl, hr⟩ := lc_inv (g := gvName 3) (m := mCall m_law_letter (mCons (mCall m_law_pick (mCons (mVar 0) (mCons (mC (.int 26)) mNil))) mNil))
    (env := wipeD [some (.box i), some (.int n), some (.int ((1 + k.toNat : Nat) : Int)), none] [3]) (P := fun q => Adv i st q) (R := fun _ y => OneAz y) (ds := rangeD (1 + k.toNat)) (st := st1) (fun d q _ hq => by
      obtain ⟨q2, j, e2, j0, j1, ad2⟩ := pick_ok (n := 26) (hq.src s) (by omega) (by omega)
      obtain ⟨c, c0, c1, e3⟩ := letter_ok (st := q2) (k := j)
      exact ⟨_, _, q2, rfl, e_call (e_cons (e_call (e_cons (e_var rfl) (e_cons e_c e_nil)) e2) e_nil) e3, hq.trans ad2, c, rfl, c0, c1⟩) ad
  have hlen : ys.length = 1 + k.toNat := by rw [hl, rangeD_len]
  obtain ⟨cs, ey, hcs⟩ := ones_of (ys := ys) (fun y hy => by
    obtain ⟨j, hj⟩ := List.mem_iff_getElem?.mp hy
    have hj2 : j < (rangeD (1 + k.toNat)).length := by rw [← hl]; exact (List.getElem?_eq_some_iff.mp hj).1
    exact hr j _ y (List.getElem?_eq_getElem hj2) hj)
  have hcl : cs.length = 1 + k.toNat := by rw [← hlen, ey, List.length_map]
  subst ey
  have run : b_law_word (startD 4 [.box i, .int n]) st = .fl (.rt (.str (SX.S cs))) st2 := by
    refine s_seq a1 (s_ret ?_)
    show mMethS dJoin _ _ _ _ = _
    unfold mMethS
    rw [show mC (.str ("" : Str)) [some (.box i), some (.int n), some (.int ((1 + k.toNat : Nat) : Int)), none] st1 = .ok (.str ("" : Str)) st1 from rfl]
    simp only [Res.bind]
    rw [e_lc (rng_ok (n := 1 + k.toNat) (e_var rfl) (by omega)) (by rw [rangeD_len]; unfold lim; omega) g]
    exact join_ones (by omega)
  exact ⟨st2, SX.S cs, 1 + k.toNat, d_flat run rfl (by rw [ad2.len]), by omega, by omega, ⟨by simpa [SX.S] using hcl, fun c hc => hcs c (by simpa [SX.S] using hc)⟩, ad2⟩
end Draw
end
section
set_option Elab.async false
set_option linter.all false
set_option maxRecDepth 100000
set_option maxHeartbeats 1000000
namespace Draw
open PySem L2 DL

/-! ### words that differ -/
theorem hole {α : Type} [DecidableEq α] : ∀ (xs ys : List α), xs.Nodup → (∀ x ∈ xs, x ∈ ys) → xs.length ≤ ys.length
  | [], ys, _, _ => Nat.zero_le _
  | x :: xs, ys, nd, h => by
    obtain ⟨n1, n2⟩ := List.nodup_cons.mp nd
    have hx := h x List.mem_cons_self
    have ih := hole xs (ys.erase x) n2 fun z hz => by
      have hne : z ≠ x := fun e => n1 (e ▸ hz)
      exact (List.mem_erase_of_ne hne).mpr (h z (List.mem_cons_of_mem _ hz))
    rw [List.length_erase_of_mem hx] at ih
    have := List.length_pos_of_mem hx
    rw [List.length_cons]; omega
theorem letter_eq {st : Store} {k : Nat} : m_law_letter [.int (k : Int)] st = .ok (.str (SX.S [97 + k % 26])) st := by
  have hj : k % 26 < 26 := Nat.mod_lt _ (by decide)
  have e := letters ⟨k % 26, hj⟩
  have ek : ((k : Int) % 26) = ((k % 26 : Nat) : Int) := by omega
  have e2 : atI azL ((k : Int) % 26) = some (97 + k % 26) := by rw [ek]; exact e
  have q : dIx (.str ("abcdefghijklmnopqrstuvwxyz" : Str)) (.int ((k : Int) % 26)) st = .ok (.str (SX.S [97 + k % 26])) st := by
    rw [az_eq]
    unfold dIx
    simp only [vw]
    have hl : (Str.mk #[97,98,99,100,101,102,103,104,105,106,107,108,109,110,111,112,113,114,115,116,117,118,119,120,121,122]).length ≤ lim := by decide
    rw [if_pos hl]
    show (match atI azL ((k : Int) % 26) with | some c => Res.ok (D.str (oneSign c)) st | none => Res.stuck) = _
    rw [e2]
    rfl
  have idx : mOp dMod (mCall bInt (mCons (mVar 0) mNil)) (mC (.int 26)) (startD 1 [.int (k : Int)]) st = .ok (.int ((k : Int) % 26)) st :=
    e_op (e_call (e_cons (e_var rfl) e_nil) rfl) e_c (mod_ok (by decide))
  exact d_flat (s_ret (e_op e_c idx q)) rfl rfl
/-- the spare words: a start and two letters -/
def spare (p : List Nat) (j : Nat) : List Nat := p ++ [97 + (j / 26) % 26] ++ [97 + j % 26]
theorem spare_inj {p : List Nat} {i j : Nat} (hi : i < 676) (hj : j < 676) (h : spare p i = spare p j) : i = j := by
  unfold spare at h
  rw [List.append_assoc, List.append_assoc] at h
  have h2 := List.append_cancel_left h
  have h3 : [97 + (i / 26) % 26, 97 + i % 26] = [97 + (j / 26) % 26, 97 + j % 26] := h2
  injection h3 with a b
  injection b with b _
  omega
theorem spare_nodup {p : List Nat} {n : Nat} (hn : n ≤ 676) : ((List.range n).map fun j => SX.S (spare p j)).Nodup := by
  refine List.pairwise_map.mpr (List.Pairwise.imp_of_mem (fun {a b} ha hb hne e => hne ?_) List.nodup_range)
  have e2 := SX.S_inj e
  exact spare_inj (Nat.lt_of_lt_of_le (List.mem_range.mp ha) hn) (Nat.lt_of_lt_of_le (List.mem_range.mp hb) hn) e2
theorem any_eq {y : Str} : ∀ ws : List Str, ((ws.map D.str).any fun z => eqFlat z (.str y)) = ws.contains y
  | [] => rfl
  | w :: ws => by
    rw [List.map_cons, List.any_cons, any_eq ws, List.contains_cons]
    show (w == y || _) = (y == w || _)
    rw [Bool.beq_comm (a := w)]
theorem flats : ∀ ws : List Str, (ws.map D.str).all D.flat = true
  | [] => rfl
  | w :: ws => by
    rw [List.map_cons, List.all_cons, flats ws]; rfl
theorem notin_ok {st : Store} {d : D} {y : Str} {b : Bool} {ws : List Str} (hd : dv st d = none) (hv : vw st d = some (b, ws.map .str)) : dDIn true (.str y) d st = .ok (.bl (!ws.contains y)) st := by
  unfold dDIn dIn
  rw [hd]
  simp only [hv]
  rw [if_pos ⟨rfl, flats ws⟩, any_eq]
  rfl
theorem get_app {st : Store} {mo : MO} {i : Nat} {o : MO} (h : st[i]? = some o) : (st ++ [mo])[i]? = some o := by
  rw [List.getElem?_append_left (List.getElem?_eq_some_iff.mp h).1]; exact h
theorem get_last {st : Store} {mo : MO} : (st ++ [mo])[st.length]? = some mo := by simp
theorem SrcAt.app {st : Store} {mo : MO} {i : Nat} (s : SrcAt st i) : SrcAt (st ++ [mo]) i := by
  obtain ⟨S, k, a, b, c, e, h0⟩ := s
  exact ⟨S, k, a, b, c, get_app e, h0⟩
/-- behind a step the new boxes stay -/
theorem Adv.app {st q : Store} {mo : MO} {i : Nat} (s : SrcAt st i) (h : Adv i (st ++ [mo]) q) : ∃ st', q = st' ++ [mo] ∧ Adv i st st' := by
  obtain ⟨S, k, a, b, c, rfl, h0⟩ := h
  obtain ⟨S', k', a', b', c', e, _⟩ := s
  have hi := (List.getElem?_eq_some_iff.mp e).1
  exact ⟨st.set i (srcO S k a b c), by rw [List.set_append_left _ _ hi], S, k, a, b, c, rfl, h0⟩
/-- what a drawn word is -/
def WordOk (L : Nat) (y : Str) : Prop := 1 ≤ y.cps.toList.length ∧ y.cps.toList.length ≤ L + 1 ∧ ∀ c ∈ y.cps.toList, 97 ≤ c ∧ c ≤ 122

theorem len_strs {st : Store} {ws : List Str} : bLen [.lst (ws.map .str)] st = .ok (.int ws.length) st := by
  have e := len_row (st := st) (r := .lst (ws.map .str)) rfl
  rw [List.length_map] at e
  exact e
theorem len_box {st : Store} {j : Nat} {ds : List D} (h : st[j]? = some (.lst ds)) : bLen [.box j] st = .ok (.int ds.length) st := by
  unfold bLen vw
  simp only [h]
theorem low_strs (n : Nat) (ws : List Str) : D.lows n (ws.map .str) = true := lows_strs n ws
/-- the start of a spare word -/
def startOf (L : Nat) (y : Str) : List Nat := (cutS y none (some ((L : Int) - 1))).cps.toList
theorem startOf_eq {L : Nat} {y : Str} : SX.S (startOf L y) = cutS y none (some ((L : Int) - 1)) := SX.S_tl _
theorem startOf_len {L : Nat} {y : Str} (h : 1 ≤ L) : (startOf L y).length ≤ L - 1 := by
  unfold startOf cutS
  simp only [List.length_take, List.length_drop]
  have h0 : HT.sIx y.length 0 none = 0 := rfl
  rw [h0, Nat.sub_zero]
  have h1 : HT.sIx y.length y.length (some ((L : Int) - 1)) ≤ L - 1 := by
    unfold HT.sIx
    simp only []
    split <;> omega
  omega
theorem startOf_sub {L : Nat} {y : Str} : ∀ c ∈ startOf L y, c ∈ y.cps.toList := fun c hc => by
  unfold startOf cutS at hc
  exact List.mem_of_mem_drop (List.mem_of_mem_take (by simpa using hc))
end Draw
end
section
set_option Elab.async false
set_option linter.all false
set_option maxRecDepth 100000
set_option maxHeartbeats 2000000
namespace Draw
open PySem L2 DL

/-- the row of which a word is taken: the drawn one, then the spare ones -/
def rowW (L : Nat) (y : Str) (n : Nat) : List Str := y :: (List.range n).map fun j => SX.S (spare (startOf L y) j)
theorem row_ok {st : Store} {L n : Nat} {y : Str} {a0 a1 a3 a4 a5 a8 a10 : Option D} (hy : y.length ≤ lim) (hn : n ≤ 676) (hL : L ≤ 1000) (hL1 : 1 ≤ L) :
    mOp dAdd (mLst (mCons (mVar 6) mNil)) (mLc (mRng1 (mCons (mVar 7) mNil)) (gvName 9) mYes (mOp dAdd (mOp dAdd (mSl (mVar 6) mPn (mPs (mOp dSub (mVar 2) (mC (.int 1))))) (mCall m_law_letter (mCons (mOp dFdiv (mVar 9) (mC (.int 26))) mNil))) (mCall m_law_letter (mCons (mVar 9) mNil))) [9])
      [a0, a1, some (.int L), a3, a4, a5, some (.str y), some (.int n), a8, none, a10] st = .ok (.lst ((rowW L y n).map .str)) st := by
  have l1 : mLst (mCons (mVar 6) mNil) [a0, a1, some (.int L), a3, a4, a5, some (.str y), some (.int n), a8, none, a10] st = .ok (.lst [.str y]) st :=
    e_lst (e_cons (e_var rfl) e_nil) (by unfold okLst; rw [if_pos (by rw [sizeLine_eq]; show 1 ≤ _; decide)])
  have hp : (startOf L y).length ≤ lim := by
    unfold startOf cutS
    simp only [List.length_take, List.length_drop]
    have : y.cps.toList.length = y.length := by simp [Str.length]
    omega
  have sl : ∀ (env : DEnv) (q : Store), env[6]? = some (some (.str y)) → env[2]? = some (some (.int L)) → mSl (mVar 6) mPn (mPs (mOp dSub (mVar 2) (mC (.int 1)))) env q = .ok (.str (SX.S (startOf L y))) q := fun env q e6 e2 => by
    refine e_sl (e_var e6) e_pn (e_ps (e_op (e_var e2) e_c rfl)) ?_
    unfold dSl
    simp only []
    rw [if_pos hy, startOf_eq]
  have el : ∀ j < n, mOp dAdd (mOp dAdd (mSl (mVar 6) mPn (mPs (mOp dSub (mVar 2) (mC (.int 1))))) (mCall m_law_letter (mCons (mOp dFdiv (mVar 9) (mC (.int 26))) mNil))) (mCall m_law_letter (mCons (mVar 9) mNil))
      [a0, a1, some (.int L), a3, a4, a5, some (.str y), some (.int n), a8, some (.int (0 + (j : Int))), a10] st = .ok (.str (SX.S (spare (startOf L y) j))) st := fun j hj => by
    have q1 : ((0 + (j : Int)) / 26) = ((j / 26 : Nat) : Int) := by omega
    have q2 : (0 + (j : Int)) = (j : Int) := by omega
    have c1 : mCall m_law_letter (mCons (mOp dFdiv (mVar 9) (mC (.int 26))) mNil) [a0, a1, some (.int L), a3, a4, a5, some (.str y), some (.int n), a8, some (.int (0 + (j : Int))), a10] st = .ok (.str (SX.S [97 + (j / 26) % 26])) st :=
      e_call (e_cons (e_op (e_var rfl) e_c (fdiv_ok (by decide) (by decide))) e_nil) (by rw [q1]; exact letter_eq)
    have c2 : mCall m_law_letter (mCons (mVar 9) mNil) [a0, a1, some (.int L), a3, a4, a5, some (.str y), some (.int n), a8, some (.int (0 + (j : Int))), a10] st = .ok (.str (SX.S [97 + j % 26])) st :=
      e_call (e_cons (e_var rfl) e_nil) (by rw [q2]; exact letter_eq)
    have add : ∀ (u v : List Nat) (q : Store), u.length + v.length ≤ lim → dAdd (.str (SX.S u)) (.str (SX.S v)) q = .ok (.str (SX.S (u ++ v))) q := fun u v q h => by
      show (if (SX.S u).length + (SX.S v).length ≤ lim then Res.ok (D.str (SX.S u ++ SX.S v)) q else Res.stuck) = _
      rw [if_pos (by rw [SX.S_len, SX.S_len]; exact h), SX.S_cat]
    have hs : (startOf L y).length ≤ y.length := by
      unfold startOf cutS
      simp only [List.length_take, List.length_drop]
      have : y.cps.toList.length = y.length := by simp [Str.length]
      omega
    have hsm : (startOf L y).length + 2 ≤ lim ∨ lim < (startOf L y).length + 2 := by omega
    rcases hsm with h | h
    · exact e_op (e_op (sl _ _ rfl rfl) c1 (add _ _ _ (by show (startOf L y).length + 1 ≤ lim; omega))) c2 (add _ _ _ (by rw [List.length_append]; show (startOf L y).length + 1 + 1 ≤ lim; omega))
    · exfalso
      have := startOf_len (y := y) hL1
      unfold lim at h; omega
  have lc : mLc (mRng1 (mCons (mVar 7) mNil)) (gvName 9) mYes (mOp dAdd (mOp dAdd (mSl (mVar 6) mPn (mPs (mOp dSub (mVar 2) (mC (.int 1))))) (mCall m_law_letter (mCons (mOp dFdiv (mVar 9) (mC (.int 26))) mNil))) (mCall m_law_letter (mCons (mVar 9) mNil))) [9]
      [a0, a1, some (.int L), a3, a4, a5, some (.str y), some (.int n), a8, none, a10] st = .ok (.lst (((List.range n).map fun j => SX.S (spare (startOf L y) j)).map .str)) st := by
    have f : D → D := fun d => match d with | .int i => .str (SX.S (spare (startOf L y) i.toNat)) | d => d
    have g := lc_map (g := gvName 9) (m := mOp dAdd (mOp dAdd (mSl (mVar 6) mPn (mPs (mOp dSub (mVar 2) (mC (.int 1))))) (mCall m_law_letter (mCons (mOp dFdiv (mVar 9) (mC (.int 26))) mNil))) (mCall m_law_letter (mCons (mVar 9) mNil)))
      (env := wipeD [a0, a1, some (.int L), a3, a4, a5, some (.str y), some (.int n), a8, none, a10] [9]) (st := st) (f := fun d => match d with | .int i => .str (SX.S (spare (startOf L y) i.toNat)) | d => d) (ds := rangeD n) (fun d hd => by
        obtain ⟨j, hj, rfl⟩ := List.mem_map.mp hd
        have hj := List.mem_range.mp hj
        refine ⟨_, rfl, ?_⟩
        have := el j hj
        have q2 : (0 + (j : Int)).toNat = j := by omega
        simp only [q2]
        exact this)
    have e : (rangeD n).map (fun d => match d with | .int i => D.str (SX.S (spare (startOf L y) i.toNat)) | d => d) = ((List.range n).map fun j => SX.S (spare (startOf L y) j)).map .str := by
      unfold rangeD
      rw [List.map_map, List.map_map]
      refine List.map_congr_left fun j _ => ?_
      have q2 : (0 + (j : Int)).toNat = j := by omega
      show D.str (SX.S (spare (startOf L y) (0 + (j : Int)).toNat)) = _
      rw [q2]; rfl
    rw [e] at g
    exact e_lc (rng_ok (n := n) (e_var rfl) (by omega)) (by rw [rangeD_len]; unfold lim; omega) g
  refine e_op l1 lc ?_
  show (if [D.str y].length + (((List.range n).map fun j => SX.S (spare (startOf L y) j)).map D.str).length ≤ lim then Res.ok (D.lst ([D.str y] ++ ((List.range n).map fun j => SX.S (spare (startOf L y) j)).map D.str)) st else Res.stuck) = _
  rw [if_pos (by simp only [List.length_map, List.length_range, List.length_singleton]; unfold lim; omega)]
  rfl
/-- the choice: neither spent nor taken -/
def freeW (spent ws : List Str) (d : D) : Bool := match d with
  | .str y => !spent.contains y && !ws.contains y
  | _ => false
theorem pick_row {spent ws : List Str} {L : Nat} {y : Str} (h : spent.length + ws.length + 1 ≤ 676) (hy : WordOk L y ∧ y.cps.toList.length ≤ L) (hL : 1 ≤ L) :
    ∃ (x : Str) (r : List D), ((rowW L y (spent.length + ws.length + 1)).map D.str).filter (freeW spent ws) = .str x :: r ∧ WordOk L x ∧ x ∉ spent ∧ x ∉ ws := by
  have hw : ∀ x ∈ rowW L y (spent.length + ws.length + 1), WordOk L x := fun x hx => by
    rcases List.mem_cons.mp hx with rfl | hx
    · exact hy.1
    · obtain ⟨j, hj, rfl⟩ := List.mem_map.mp hx
      have hl := startOf_len (y := y) hL
      refine ⟨?_, ?_, fun c hc => ?_⟩
      · show 1 ≤ (spare (startOf L y) j).length
        unfold spare
        simp only [List.length_append, List.length_cons, List.length_nil]; omega
      · show (spare (startOf L y) j).length ≤ L + 1
        unfold spare
        simp only [List.length_append, List.length_cons, List.length_nil]; omega
      · have hc : c ∈ spare (startOf L y) j := by simpa [SX.S] using hc
        unfold spare at hc
        rw [List.mem_append, List.mem_append] at hc
        rcases hc with (hc | hc) | hc
        · exact hy.1.2.2 c (startOf_sub c hc)
        · have e : c = 97 + (j / 26) % 26 := by simpa using hc
          omega
        · have e : c = 97 + j % 26 := by simpa using hc
          omega
  cases hf : ((rowW L y (spent.length + ws.length + 1)).map D.str).filter (freeW spent ws) with
  | nil =>
    exfalso
    have all : ∀ x ∈ (List.range (spent.length + ws.length + 1)).map (fun j => SX.S (spare (startOf L y) j)), x ∈ spent ++ ws := fun x hx => by
      have hm : D.str x ∈ (rowW L y (spent.length + ws.length + 1)).map D.str := List.mem_map.mpr ⟨x, List.mem_cons_of_mem _ hx, rfl⟩
      have hn : ¬ freeW spent ws (.str x) = true := fun z => by
        have := List.mem_filter.mpr ⟨hm, z⟩
        rw [hf] at this; cases this
      unfold freeW at hn
      rw [List.mem_append]
      simp only [Bool.and_eq_true, Bool.not_eq_true', List.contains_eq_mem] at hn
      by_cases h1 : x ∈ spent
      · exact .inl h1
      · by_cases h2 : x ∈ ws
        · exact .inr h2
        · exact absurd ⟨by simpa using h1, by simpa using h2⟩ hn
    have := hole _ _ (spare_nodup (p := startOf L y) h) all
    simp only [List.length_map, List.length_range, List.length_append] at this
    omega
  | cons d r =>
    have hd : d ∈ ((rowW L y (spent.length + ws.length + 1)).map D.str).filter (freeW spent ws) := by rw [hf]; exact List.mem_cons_self
    obtain ⟨h1, h2⟩ := List.mem_filter.mp hd
    obtain ⟨x, hx, rfl⟩ := List.mem_map.mp h1
    unfold freeW at h2
    simp only [Bool.and_eq_true, Bool.not_eq_true', List.contains_eq_mem, decide_eq_false_iff_not] at h2
    exact ⟨x, r, rfl, hw x hx, h2.1, h2.2⟩
end Draw
end
section
set_option Elab.async false
set_option linter.all false
set_option maxRecDepth 100000
set_option maxHeartbeats 2000000
namespace Draw
open PySem L2 DL

theorem e_any {m : ME} {env : DEnv} {st st1 : Store} {d : D} {ds : List D} (h : m env st = .ok d st1) (hr : rowOf d = some ds) : mAny m env st = .ok (.fix ds) st1 := by
  unfold mAny
  rw [h]
  cases d <;> first | (cases hr; rfl) | cases hr
theorem e_methL {f : D → List D → Store → Res D} {m : ME} {ma : MA} {env : DEnv} {st st1 st2 : Store} {j : Nat} {ds xs : List D} {r : Res D} (h : m env st = .ok (.box j) st1) (hj : st1[j]? = some (.lst ds)) (ha : ma env st1 = .ok xs st2) (hf : f (.box j) xs st2 = r) : mMethL f m ma env st = r := by
  unfold mMethL
  rw [h]
  have hv : vl st1 (.box j) = some ds := by unfold vl; simp only [hj]
  simp only [Res.bind, hv]
  rw [ha]
  exact hf
theorem app_ok {st : Store} {j : Nat} {ds : List D} {x : D} (hj : st[j]? = some (.lst ds)) (hl : ds.length < lim) (hx : x.low j = true) : dAppend (.box j) [x] st = .ok .non (st.set j (.lst (ds ++ [x]))) := by
  unfold dAppend
  simp only [hj]
  rw [if_pos ⟨hl, hx⟩]
theorem at0 {d : D} {r : List D} : atI (d :: r) 0 = some d := by
  unfold atI ixN
  rw [if_pos (by decide), if_pos (by rw [List.length_cons]; omega)]
  rfl
theorem set_last {st : Store} {a b : MO} : (st ++ [a]).set st.length b = st ++ [b] := by
  rw [List.set_append_right _ _ (Nat.le_refl _), Nat.sub_self]; rfl
theorem words_ok {st : Store} {i n L : Nat} {spent : List Str} (s : SrcAt st i) (hn : n ≤ 100) (hL1 : 1 ≤ L) (hL : L ≤ 900) (hs : spent.length ≤ 500) :
    ∃ (st' : Store) (ws : List Str), m_law_words [.box i, .int n, .int L, .lst (spent.map .str)] st = .ok (.lst (ws.map .str)) st' ∧ ws.length = n ∧ ws.Nodup ∧ (∀ w ∈ ws, WordOk L w ∧ w ∉ spent) ∧ Adv i st st' := by
  let P : List D → DEnv → Store → Prop := fun left env q => ∃ (e5 e6 e7 e8 : Option D) (stA : Store) (ws : List Str), env = [some (.box i), some (.int n), some (.int L), some (.lst (spent.map .str)), some (.box st.length), e5, e6, e7, e8, none, none] ∧
    q = stA ++ [.lst (ws.map .str)] ∧ Adv i st stA ∧ ws.length + left.length = n ∧ ws.Nodup ∧ ∀ w ∈ ws, WordOk L w ∧ w ∉ spent
  have step : ∀ d ds env q, P (d :: ds) env q → ∃ env1 st1, (stepF (gvName 5) (msSeq (msSet 6 (mCall m_law_word (mCons (mVar 0) (mCons (mVar 2) mNil)))) (msSeq (msSet 7 (mOp dAdd (mOp dAdd (mCall bLen (mCons (mVar 3) mNil)) (mCall bLen (mCons (mVar 4) mNil))) (mC (.int 1)))) (msSeq (msSet 8 (mOp dAdd (mLst (mCons (mVar 6) mNil)) (mLc (mRng1 (mCons (mVar 7) mNil)) (gvName 9) mYes (mOp dAdd (mOp dAdd (mSl (mVar 6) mPn (mPs (mOp dSub (mVar 2) (mC (.int 1))))) (mCall m_law_letter (mCons (mOp dFdiv (mVar 9) (mC (.int 26))) mNil))) (mCall m_law_letter (mCons (mVar 9) mNil))) [9]))) (msDrop (mMethL dAppend (mVar 4) (mCons (mOp dIx (mLc (mAny (mVar 8)) (gvName 10) (mAnd (mTest (mOp (dDIn true) (mVar 10) (mVar 3))) (mTest (mOp (dDIn true) (mVar 10) (mVar 4)))) (mVar 10) [10]) (mC (.int 0))) mNil)))))) d env q = .fl (.nx env1) st1 ∨
      stepF (gvName 5) (msSeq (msSet 6 (mCall m_law_word (mCons (mVar 0) (mCons (mVar 2) mNil)))) (msSeq (msSet 7 (mOp dAdd (mOp dAdd (mCall bLen (mCons (mVar 3) mNil)) (mCall bLen (mCons (mVar 4) mNil))) (mC (.int 1)))) (msSeq (msSet 8 (mOp dAdd (mLst (mCons (mVar 6) mNil)) (mLc (mRng1 (mCons (mVar 7) mNil)) (gvName 9) mYes (mOp dAdd (mOp dAdd (mSl (mVar 6) mPn (mPs (mOp dSub (mVar 2) (mC (.int 1))))) (mCall m_law_letter (mCons (mOp dFdiv (mVar 9) (mC (.int 26))) mNil))) (mCall m_law_letter (mCons (mVar 9) mNil))) [9]))) (msDrop (mMethL dAppend (mVar 4) (mCons (mOp dIx (mLc (mAny (mVar 8)) (gvName 10) (mAnd (mTest (mOp (dDIn true) (mVar 10) (mVar 3))) (mTest (mOp (dDIn true) (mVar 10) (mVar 4)))) (mVar 10) [10]) (mC (.int 0))) mNil)))))) d env q = .fl (.ct env1) st1) ∧ P ds env1 st1 := by
    rintro d ds env q ⟨e5, e6, e7, e8, stA, ws, rfl, rfl, ad, hlen, nd, hw⟩
    have sA := ad.src s
    obtain ⟨q1, y, k, e1, k1, k2, az, ad1⟩ := word_ok (n := L) (sA.app (mo := .lst (ws.map .str))) (by omega) (by omega)
    obtain ⟨stB, rfl, adB⟩ := Adv.app sA ad1
    have lB : stB.length = st.length := by rw [adB.len, ad.len]
    have box : (stB ++ [MO.lst (ws.map D.str)])[st.length]? = some (.lst (ws.map .str)) := by rw [← lB]; exact get_last
    have hyl : y.cps.toList.length = k := az.1
    have hlw : ws.length < n := by rw [List.length_cons] at hlen; omega
    obtain ⟨x, r, hx, xo, xs, xw⟩ := pick_row (L := L) (y := y) (spent := spent) (ws := ws) (by omega) ⟨⟨by omega, by omega, az.2⟩, by omega⟩ hL1
    have hy2 : y.length ≤ lim := by
      have : y.cps.toList.length = y.length := by simp [Str.length]
      unfold lim; omega
    have lc := lc_filter (g := gvName 10) (t := mAnd (mTest (mOp (dDIn true) (mVar 10) (mVar 3))) (mTest (mOp (dDIn true) (mVar 10) (mVar 4)))) (m := mVar 10)
      (env := wipeD [some (.box i), some (.int n), some (.int L), some (.lst (spent.map .str)), some (.box st.length), some d, some (.str y), some (.int ((spent.length + ws.length + 1 : Nat) : Int)), some (.lst ((rowW L y (spent.length + ws.length + 1)).map .str)), none, none] [10])
      (st := stB ++ [.lst (ws.map .str)]) (f := fun z => z) (p := freeW spent ws) (ds := (rowW L y (spent.length + ws.length + 1)).map .str) (fun z hz => by
        obtain ⟨v, hv, rfl⟩ := List.mem_map.mp hz
        refine ⟨_, rfl, ?_, fun _ => e_var rfl⟩
        have t1 : mTest (mOp (dDIn true) (mVar 10) (mVar 3)) [some (.box i), some (.int n), some (.int L), some (.lst (spent.map .str)), some (.box st.length), some d, some (.str y), some (.int ((spent.length + ws.length + 1 : Nat) : Int)), some (.lst ((rowW L y (spent.length + ws.length + 1)).map .str)), none, some (.str v)] (stB ++ [.lst (ws.map .str)]) = .ok (!spent.contains v) (stB ++ [.lst (ws.map .str)]) :=
          e_test (e_op (e_var rfl) (e_var rfl) (notin_ok (b := true) rfl rfl))
        have t2 : mTest (mOp (dDIn true) (mVar 10) (mVar 4)) [some (.box i), some (.int n), some (.int L), some (.lst (spent.map .str)), some (.box st.length), some d, some (.str y), some (.int ((spent.length + ws.length + 1 : Nat) : Int)), some (.lst ((rowW L y (spent.length + ws.length + 1)).map .str)), none, some (.str v)] (stB ++ [.lst (ws.map .str)]) = .ok (!ws.contains v) (stB ++ [.lst (ws.map .str)]) :=
          e_test (e_op (e_var rfl) (e_var rfl) (notin_ok (b := true) (by unfold dv; simp only [box]) (by unfold vw; simp only [box])))
        show mAnd _ _ _ _ = Res.ok (!spent.contains v && !ws.contains v) _
        cases hc : spent.contains v with
        | true => rw [hc] at t1; exact e_andf t1
        | false => rw [hc] at t1; exact e_andt t1 t2)
    rw [List.map_id'] at lc
    rw [hx] at lc
    refine ⟨_, _, .inl (?_ : stepF (gvName 5) _ d _ _ = .fl (.nx [some (.box i), some (.int n), some (.int L), some (.lst (spent.map .str)), some (.box st.length), some d, some (.str y), some (.int ((spent.length + ws.length + 1 : Nat) : Int)), some (.lst ((rowW L y (spent.length + ws.length + 1)).map .str)), none, none]) (stB ++ [.lst ((ws ++ [x]).map .str)])), ?_⟩
    · show msSeq _ _ [some (.box i), some (.int n), some (.int L), some (.lst (spent.map .str)), some (.box st.length), some d, e6, e7, e8, none, none] _ = _
      refine s_seq (s_set (e_call (e_cons (e_var rfl) (e_cons (e_var rfl) e_nil)) e1)) ?_
      refine s_seq (s_set (d := .int ((spent.length + ws.length + 1 : Nat) : Int)) (e_op (e_op (e_call (e_cons (e_var rfl) e_nil) len_strs) (e_call (e_cons (e_var rfl) e_nil) (len_box box)) rfl) e_c (by
        rw [List.length_map]
        show Res.ok (D.int ((spent.length : Int) + (ws.length : Int) + 1)) _ = _
        have : ((spent.length : Int) + (ws.length : Int) + 1) = ((spent.length + ws.length + 1 : Nat) : Int) := by omega
        rw [this]))) ?_
      refine s_seq (s_set (row_ok hy2 (by omega) (by omega) hL1)) ?_
      refine s_drop (d := .non) (e_methL (e_var rfl) box (e_cons (e_op (e_lc (e_any (e_var rfl) rfl) (by rw [List.length_map]; unfold rowW lim; simp; omega) lc) e_c (ix_row (x := .str x) (ds := .str x :: r) rfl at0)) e_nil) ?_)
      rw [app_ok box (by rw [List.length_map]; unfold lim; omega) rfl, ← lB, set_last, List.map_append]
      rfl
    · refine ⟨some d, some (.str y), _, _, stB, ws ++ [x], rfl, rfl, ad.trans adB, ?_, ?_, ?_⟩
      · rw [List.length_append, List.length_singleton]
        rw [List.length_cons] at hlen
        omega
      · rw [List.nodup_append]
        refine ⟨nd, by simp, fun a ha b hb e => ?_⟩
        have eb : b = x := by simpa using hb
        subst eb; subst e
        exact xw ha
      · intro w hwm
        rcases List.mem_append.mp hwm with hwm | hwm
        · exact hw w hwm
        · have e : w = x := by simpa using hwm
          subst e
          exact ⟨xo, xs⟩
  obtain ⟨env1, q, run, e5, e6, e7, e8, stA, ws, rfl, rfl, ad, hlen, nd, hw⟩ := for_inv (P := P) step (ds := rangeD n) (env := [some (.box i), some (.int n), some (.int L), some (.lst (spent.map .str)), some (.box st.length), none, none, none, none, none, none]) (st := st ++ [.lst []])
    ⟨none, none, none, none, st, [], rfl, rfl, Adv.refl s, by rw [rangeD_len]; simp, List.nodup_nil, fun w hw => by simp at hw⟩
  have lA : stA.length = st.length := ad.len
  have all : b_law_words (startD 11 [.box i, .int n, .int L, .lst (spent.map .str)]) st = .fl (.rt (.box stA.length)) (stA ++ [.lst (ws.map .str)]) := by
    have l0 : mLstM mNil (startD 11 [.box i, .int n, .int L, .lst (spent.map .str)]) st = .ok (.box st.length) (st ++ [.lst []]) := by
      refine e_lstM e_nil ?_
      unfold okLstM
      rw [if_pos ⟨Nat.zero_le _, rfl⟩]
    refine s_seq (s_set l0) (s_seq (s_for (rng_ok (n := n) (e_var rfl) (by omega)) run) ?_)
    rw [lA]
    exact s_ret (e_var rfl)
  refine ⟨stA, ws, d_new all (low_strs 0 ws) lA, by simpa using hlen, nd, hw, ad⟩
end Draw
end
section
set_option Elab.async false
set_option linter.all false
set_option maxRecDepth 100000
set_option maxHeartbeats 2000000
namespace Draw
open PySem L2 DL

/-! ### the laws' comparison -/
section
variable {n : Nat} {J : Nat → Nat → Bool}
def bSame (n : Nat) (J : Nat → Nat → Bool) (rec : List D → Store → Res D) : MS := (msSeq (msIf (mTest (mIsN (mVar 1))) (msRet (mIsN (mVar 0))) msNext) (msSeq (msIf (mTest (mIsi1 n J (mVar 1) (mC (.ty "bool")))) (msRet (mAndV (mIsi1 n J (mVar 0) (mC (.ty "bool"))) (mOp dEq (mVar 0) (mVar 1)))) msNext) (msSeq (msIf (mTest (mIsi1 n J (mVar 1) (mC (.ty "tuple")))) (msSeq (msIf (mOr (mNot (mTest (mIsi1 n J (mVar 0) (mC (.ty "tuple"))))) (mTest (mOp dNe (mCall bLen (mCons (mVar 0) mNil)) (mCall bLen (mCons (mVar 1) mNil))))) (msRet (mC (.bl false))) msNext) (msRet (mCall bAll (mCons (mLc (mRng1 (mCons (mCall bLen (mCons (mVar 1) mNil)) mNil)) (gvName 2) mYes (mCall rec (mCons (mOp dIx (mVar 0) (mVar 2)) (mCons (mOp dIx (mVar 1) (mVar 2)) mNil))) [2]) mNil)))) msNext) (msSeq (msIf (mTest (mIsi1 n J (mVar 1) (mC (.ty "int")))) (msRet (mAndV (mIsi1 n J (mVar 0) (mC (.ty "int"))) (mAndV (mNotV (mIsi1 n J (mVar 0) (mC (.ty "bool")))) (mOp dEq (mVar 0) (mVar 1))))) msNext) (msRet (mAndV (mIsi1 n J (mVar 0) (mC (.ty "str"))) (mOp dEq (mVar 0) (mVar 1))))))))
/-- plain things of a depth -/
inductive Pl : Nat → D → Prop where
  | non {k : Nat} : Pl k .non
  | bl {k : Nat} (b : Bool) : Pl k (.bl b)
  | int {k : Nat} (i : Int) : Pl k (.int i)
  | str {k : Nat} (y : Str) : Pl k (.str y)
  | tup {k : Nat} {xs : List D} (h : ∀ x ∈ xs, Pl k x) (l : xs.length ≤ 1000000) : Pl (k + 1) (.tup xs)
theorem isi_ok {st : Store} {d : D} {a b : String} {r : Bool} (h : tyD st d = some (.inl a)) (hk : kitB a b = some r) : isi1 n J d (.ty b) st = .ok (.bl r) st := by
  unfold isi1
  simp only [h, tyOk, if_true]
  have e : kitD n J (.inl a) (.ty b) = some r := hk
  rw [e]
theorem e_isi {env : DEnv} {st : Store} {i : Nat} {d : D} {a b : String} {r : Bool} (hv : env[i]? = some (some d)) (h : tyD st d = some (.inl a)) (hk : kitB a b = some r) : mIsi1 n J (mVar i) (mC (.ty b)) env st = .ok (.bl r) st :=
  e_op (e_var hv) e_c (isi_ok h hk)
theorem e_isN {env : DEnv} {st : Store} {i : Nat} {d : D} (hv : env[i]? = some (some d)) : mIsN (mVar i) env st = .ok (.bl d.isNon) st := e_un (e_var hv) rfl
theorem e_isNb {env : DEnv} {st : Store} {i : Nat} {d : D} {b : Bool} (hv : env[i]? = some (some d)) (hb : d.isNon = b) : mIsN (mVar i) env st = .ok (.bl b) st := hb ▸ e_isN hv
theorem e_notVb {a : ME} {env : DEnv} {st st1 : Store} {p q : Bool} (ha : a env st = .ok (.bl p) st1) (hq : (!p) = q) : mNotV a env st = .ok (.bl q) st1 := hq ▸ e_notV ha
theorem e_notb {a : MT} {env : DEnv} {st st1 : Store} {p q : Bool} (ha : a env st = .ok p st1) (hq : (!p) = q) : mNot a env st = .ok q st1 := hq ▸ e_not ha
theorem s_ifR {env : DEnv} {st st1 : Store} {mt : MT} {m m2 m3 : MS} {d : D} (hc : mt env st = .ok true st1) (ha : m env st1 = .fl (.rt d) st1) : msSeq (msIf mt m m2) m3 env st = .fl (.rt d) st1 := s_seqR (s_ift hc ha)
theorem s_skip {env : DEnv} {st st1 : Store} {mt : MT} {m m3 : MS} {r : SRes} (hc : mt env st = .ok false st1) (ha : m3 env st1 = r) : msSeq (msIf mt m msNext) m3 env st = r := s_seq (s_iff hc s_next) ha
theorem bls_true : ∀ k : Nat, D.bls (List.replicate k (.bl true)) = some (List.replicate k true)
  | 0 => rfl
  | k + 1 => by
    rw [List.replicate_succ, List.replicate_succ]
    show (D.bls (List.replicate k (.bl true))).map _ = _
    rw [bls_true k]; rfl
theorem all_true {st : Store} {k : Nat} : bAll [.lst (List.replicate k (.bl true))] st = .ok (.bl true) st := by
  show (match D.bls (List.replicate k (.bl true)) with | some bs => Res.ok (D.bl (bs.all id)) st | none => Res.stuck) = _
  rw [bls_true]
  have : (List.replicate k true).all id = true := by
    rw [List.all_eq_true]
    intro x hx
    exact (List.mem_replicate.mp hx).2
  simp only [this]
theorem eqS_refl {st : Store} {d : D} (h : dEqS d d = some true) : dEq d d st = .ok (.bl true) st := by
  unfold dEq
  rw [h]
theorem same_refl {st : Store} : ∀ (k : Nat) (d : D), Pl k d → mRec 3 (bSame n J) (k + 1) [d, d] st = .ok (.bl true) st := by
  intro k
  induction k with
  | zero =>
    intro d hd
    show mDef 3 (bSame n J (mRec 3 (bSame n J) 0)) [d, d] st = _
    cases hd with
    | non => exact d_flat (s_ifR (st1 := st) (e_test (e_isNb rfl rfl)) (s_ret (e_isNb rfl rfl))) rfl rfl
    | bl b =>
      refine d_flat (s_skip (st1 := st) (e_test (e_isNb rfl rfl)) (s_ifR (st1 := st) (e_test (e_isi rfl rfl rfl)) (s_ret (e_andVt (e_isi rfl rfl rfl) (e_op (e_var rfl) (e_var rfl) (eqS_refl ?_)))))) rfl rfl
      show some (b == b) = _
      rw [beq_self_eq_true]
    | int i =>
      refine d_flat (s_skip (st1 := st) (e_test (e_isNb rfl rfl)) (s_skip (st1 := st) (e_test (e_isi rfl rfl rfl)) (s_skip (st1 := st) (e_test (e_isi rfl rfl rfl)) (s_ifR (st1 := st) (e_test (e_isi rfl rfl rfl)) (s_ret (e_andVt (e_isi rfl rfl rfl) (e_andVt (e_notVb (e_isi rfl rfl rfl) rfl) (e_op (e_var rfl) (e_var rfl) (eqS_refl ?_))))))))) rfl rfl
      show some (i == i) = _
      rw [beq_self_eq_true]
    | str y =>
      refine d_flat (s_skip (st1 := st) (e_test (e_isNb rfl rfl)) (s_skip (st1 := st) (e_test (e_isi rfl rfl rfl)) (s_skip (st1 := st) (e_test (e_isi rfl rfl rfl)) (s_skip (st1 := st) (e_test (e_isi rfl rfl rfl)) (s_ret (e_andVt (e_isi rfl rfl rfl) (e_op (e_var rfl) (e_var rfl) (eqS_refl ?_)))))))) rfl rfl
      show some (y == y) = _
      rw [beq_self_eq_true]
  | succ k ih =>
    intro d hd
    show mDef 3 (bSame n J (mRec 3 (bSame n J) (k + 1))) [d, d] st = _
    cases hd with
    | non => exact d_flat (s_ifR (st1 := st) (e_test (e_isNb rfl rfl)) (s_ret (e_isNb rfl rfl))) rfl rfl
    | bl b =>
      refine d_flat (s_skip (st1 := st) (e_test (e_isNb rfl rfl)) (s_ifR (st1 := st) (e_test (e_isi rfl rfl rfl)) (s_ret (e_andVt (e_isi rfl rfl rfl) (e_op (e_var rfl) (e_var rfl) (eqS_refl ?_)))))) rfl rfl
      show some (b == b) = _
      rw [beq_self_eq_true]
    | int i =>
      refine d_flat (s_skip (st1 := st) (e_test (e_isNb rfl rfl)) (s_skip (st1 := st) (e_test (e_isi rfl rfl rfl)) (s_skip (st1 := st) (e_test (e_isi rfl rfl rfl)) (s_ifR (st1 := st) (e_test (e_isi rfl rfl rfl)) (s_ret (e_andVt (e_isi rfl rfl rfl) (e_andVt (e_notVb (e_isi rfl rfl rfl) rfl) (e_op (e_var rfl) (e_var rfl) (eqS_refl ?_))))))))) rfl rfl
      show some (i == i) = _
      rw [beq_self_eq_true]
    | str y =>
      refine d_flat (s_skip (st1 := st) (e_test (e_isNb rfl rfl)) (s_skip (st1 := st) (e_test (e_isi rfl rfl rfl)) (s_skip (st1 := st) (e_test (e_isi rfl rfl rfl)) (s_skip (st1 := st) (e_test (e_isi rfl rfl rfl)) (s_ret (e_andVt (e_isi rfl rfl rfl) (e_op (e_var rfl) (e_var rfl) (eqS_refl ?_)))))))) rfl rfl
      show some (y == y) = _
      rw [beq_self_eq_true]
    | @tup _ xs h l =>
      have len : ∀ (env : DEnv) (i : Nat), env[i]? = some (some (.tup xs)) → mCall bLen (mCons (mVar i) mNil) env st = .ok (.int (xs.length : Nat)) st := fun env i e => e_call (e_cons (e_var e) e_nil) (len_row rfl)
      have ne : mTest (mOp dNe (mCall bLen (mCons (mVar 0) mNil)) (mCall bLen (mCons (mVar 1) mNil))) [some (.tup xs), some (.tup xs), none] st = .ok false st := by
        refine e_test (e_op (len _ 0 rfl) (len _ 1 rfl) ?_)
        show (Res.ok (D.bl (!(((xs.length : Nat) : Int) == ((xs.length : Nat) : Int)))) st) = _
        rw [beq_self_eq_true]; rfl
      have g := lc_map (g := gvName 2) (m := mCall (mRec 3 (bSame n J) (k + 1)) (mCons (mOp dIx (mVar 0) (mVar 2)) (mCons (mOp dIx (mVar 1) (mVar 2)) mNil))) (env := wipeD [some (.tup xs), some (.tup xs), none] [2]) (st := st) (f := fun _ => .bl true) (ds := rangeD xs.length) (fun d hd => by
        obtain ⟨j, hj, rfl⟩ := List.mem_map.mp hd
        have hj := List.mem_range.mp hj
        obtain ⟨x, hx, hm⟩ := atI_in (ds := xs) (k := (0 + (j : Int))) (by omega) (by omega)
        refine ⟨_, rfl, e_call (e_cons (e_op (e_var rfl) (e_var rfl) (ix_row rfl hx)) (e_cons (e_op (e_var rfl) (e_var rfl) (ix_row rfl hx)) e_nil)) ?_⟩
        exact ih x (h x (List.mem_of_getElem? hm)))
      have e : (rangeD xs.length).map (fun _ => D.bl true) = List.replicate xs.length (.bl true) := by
        rw [List.map_const', rangeD_len]
      rw [e] at g
      refine d_flat (s_skip (st1 := st) (e_test (e_isNb rfl rfl)) (s_skip (st1 := st) (e_test (e_isi rfl rfl rfl)) (s_seqR (s_ift (st1 := st) (e_test (e_isi rfl rfl rfl)) (s_skip (st1 := st) (e_orf (e_notb (e_test (e_isi rfl rfl rfl)) rfl) ne) (s_ret (e_call (e_cons (e_lc (rng_ok (n := xs.length) (len _ 1 rfl) l) (by rw [rangeD_len]; exact l) g) e_nil) all_true))))))) rfl rfl
end
end Draw
end
section
set_option Elab.async false
set_option linter.all false
set_option maxRecDepth 100000
set_option maxHeartbeats 1000000
namespace Law
open PySem L2 DL Draw
theorem q_source : m_law_source = Draw.m_law_source := rfl
theorem q_next : m_law_next = Draw.m_law_next := rfl
theorem q_pick : m_law_pick = Draw.m_law_pick := rfl
theorem q_one_in : m_law_one_in = Draw.m_law_one_in := rfl
theorem q_one_of : m_law_one_of = Draw.m_law_one_of := rfl
theorem q_word : m_law_word = Draw.m_law_word := rfl
theorem q_words : m_law_words = Draw.m_law_words := rfl
theorem q_same : m_law_same = mRec 3 (bSame nC jC) := rfl
end Law
end
section
set_option Elab.async false
set_option linter.all false
set_option maxRecDepth 100000
set_option maxHeartbeats 1000000
namespace Draw
open PySem L2 DL

/-! ### chains, texts by sign -/
section
variable {env : DEnv} {st st1 st2 st3 : Store} {a b c : ME} {f g : D → D → Store → Res D} {x y z : D} {r : Res D}
theorem e_chainf (ha : a env st = .ok x st1) (hb : b env st1 = .ok y st2) (hf : f x y st2 = .ok (.bl false) st3) : mChain f g a b c env st = .ok (.bl false) st3 := by
  unfold mChain; rw [ha]; simp only [Res.bind]; rw [hb]; simp only []; rw [hf]
theorem e_chaint {st4 : Store} (ha : a env st = .ok x st1) (hb : b env st1 = .ok y st2) (hf : f x y st2 = .ok (.bl true) st3) (hc : c env st3 = .ok z st4) (hg : g y z st4 = r) : mChain f g a b c env st = r := by
  unfold mChain; rw [ha]; simp only [Res.bind]; rw [hb]; simp only []; rw [hf]; simp only []; rw [hc]; exact hg
/-- both at once, nothing changed -/
theorem e_chain {p q : Bool} (ha : a env st = .ok x st) (hb : b env st = .ok y st) (hf : f x y st = .ok (.bl p) st) (hc : c env st = .ok z st) (hg : g y z st = .ok (.bl q) st) : mChain f g a b c env st = .ok (.bl (p && q)) st := by
  cases p with
  | false => exact e_chainf ha hb hf
  | true => exact e_chaint ha hb hf hc hg
end
theorem len_str {st : Store} {y : Str} (h : y.length ≤ lim) : bLen [.str y] st = .ok (.int y.length) st := by
  show (if y.length ≤ lim then Res.ok (D.int y.length) st else Res.stuck) = _
  rw [if_pos h]
theorem e_anyS {m : ME} {env : DEnv} {st st1 : Store} {y : Str} (h : m env st = .ok (.str y) st1) : mAny m env st = .ok (.fix (y.cps.toList.map fun c => .str (oneSign c))) st1 := by
  unfold mAny
  rw [h]; rfl
theorem sLt_one {a b : Nat} : sLt (oneSign a) (oneSign b) = decide (a < b) := by
  show decide ([a] < [b]) = _
  exact decide_eq_decide.mpr (by simp [List.cons_lt_cons_iff])
theorem a_sign : ("a" : Str) = oneSign 97 := by decide +kernel
theorem z_sign : ("z" : Str) = oneSign 122 := by decide +kernel
theorem bls_map {α : Type} {f : α → Bool} : ∀ l : List α, D.bls (l.map fun x => D.bl (f x)) = some (l.map f)
  | [] => rfl
  | x :: l => by
    show (D.bls (l.map fun x => D.bl (f x))).map _ = _
    rw [bls_map l]; rfl
theorem all_map {α : Type} {st : Store} {f : α → Bool} {l : List α} : bAll [.lst (l.map fun x => D.bl (f x))] st = .ok (.bl (l.all f)) st := by
  show (match D.bls (l.map fun x => D.bl (f x)) with | some bs => Res.ok (D.bl (bs.all id)) st | none => Res.stuck) = _
  rw [bls_map]
  simp only [List.all_map]
  rfl
def lowAz (c : Nat) : Bool := decide (97 ≤ c) && decide (c ≤ 122)
/-- is it a word -/
def isW (l : List Nat) : Bool := (decide (1 ≤ l.length) && decide (l.length ≤ 8)) && l.all lowAz
def bIsWord (n : Nat) (J : Nat → Nat → Bool) : MS := (msSeq (msIf (mOr (mNot (mTest (mIsi1 n J (mVar 0) (mC (.ty "str"))))) (mNot (mTest (mChain dLe dLe (mC (.int 1)) (mCall bLen (mCons (mVar 0) mNil)) (mC (.int 8)))))) (msRet (mC (.bl false))) msNext) (msRet (mCall bAll (mCons (mLc (mAny (mVar 0)) (gvName 1) mYes (mChain dLe dLe (mC (.str ("a" : Str))) (mVar 1) (mC (.str ("z" : Str)))) [1]) mNil))))
theorem is_word_ok {n : Nat} {J : Nat → Nat → Bool} {st : Store} {y : Str} (h : y.length ≤ lim) : mDef 2 (bIsWord n J) [.str y] st = .ok (.bl (isW y.cps.toList)) st := by
  have hl : y.cps.toList.length = y.length := by simp [Str.length]
  have c1 : mTest (mChain dLe dLe (mC (.int 1)) (mCall bLen (mCons (mVar 0) mNil)) (mC (.int 8))) (startD 2 [.str y]) st = .ok (decide (1 ≤ y.length) && decide (y.length ≤ 8)) st := by
    refine e_test (e_chain e_c (e_call (e_cons (e_var rfl) e_nil) (len_str h)) (le_ok ?_) e_c (le_ok ?_))
    · exact decide_eq_decide.mpr (by omega)
    · exact decide_eq_decide.mpr (by omega)
  have t0 : mNot (mTest (mIsi1 n J (mVar 0) (mC (.ty "str")))) (startD 2 [.str y]) st = .ok false st := e_notb (e_test (e_isi rfl rfl rfl)) rfl
  cases hc : (decide (1 ≤ y.length) && decide (y.length ≤ 8)) with
  | false =>
    rw [hc] at c1
    have e : isW y.cps.toList = false := by unfold isW; rw [hl, hc]; rfl
    rw [e]
    exact d_flat (s_ifR (st1 := st) (e_orf t0 (e_notb c1 rfl)) (s_ret e_c)) rfl rfl
  | true =>
    rw [hc] at c1
    have e : isW y.cps.toList = y.cps.toList.all lowAz := by unfold isW; rw [hl, hc]; rfl
    rw [e]
    have g := lc_map (g := gvName 1) (m := mChain dLe dLe (mC (.str ("a" : Str))) (mVar 1) (mC (.str ("z" : Str)))) (env := wipeD (startD 2 [.str y]) [1]) (st := st) (f := fun d => match d with
      | .str w => .bl (lowAz (w.cps.toList.getD 0 0))
      | d => d) (ds := y.cps.toList.map fun c => .str (oneSign c)) (fun d hd => by
        obtain ⟨c, hcm, rfl⟩ := List.mem_map.mp hd
        refine ⟨_, rfl, e_chain e_c (e_var rfl) ?_ e_c ?_⟩
        · show (Res.ok (D.bl (!sLt (oneSign c) ("a" : Str))) st) = .ok (.bl (decide (97 ≤ c))) st
          rw [a_sign, sLt_one]
          congr 2
          by_cases q : c < 97
          · rw [decide_eq_true q, decide_eq_false (by omega)]; rfl
          · rw [decide_eq_false q, decide_eq_true (by omega)]; rfl
        · show (Res.ok (D.bl (!sLt ("z" : Str) (oneSign c))) st) = .ok (.bl (decide (c ≤ 122))) st
          rw [z_sign, sLt_one]
          congr 2
          by_cases q : 122 < c
          · rw [decide_eq_true q, decide_eq_false (by omega)]; rfl
          · rw [decide_eq_false q, decide_eq_true (by omega)]; rfl)
    have e2 : (y.cps.toList.map fun c => D.str (oneSign c)).map (fun d => match d with
      | .str w => D.bl (lowAz (w.cps.toList.getD 0 0))
      | d => d) = y.cps.toList.map fun c => D.bl (lowAz c) := by
      rw [List.map_map]; rfl
    rw [e2] at g
    exact d_flat (s_skip (st1 := st) (e_orf t0 (e_notb c1 rfl)) (s_ret (e_call (e_cons (e_lc (e_anyS (e_var rfl)) (by rw [List.length_map, hl]; exact h) g) e_nil) all_map))) rfl rfl
end Draw
end
section
set_option Elab.async false
set_option linter.all false
set_option maxRecDepth 100000
set_option maxHeartbeats 1000000
namespace Draw
open PySem L2 DL

theorem az_in : ∀ j : Fin 26, 97 + j.val ∈ azL := by decide
theorem az_out : ∀ c ∈ azL, lowAz c = true := by decide
theorem az_low {c : Nat} : decide (c ∈ azL) = lowAz c := by
  cases h : lowAz c with
  | true =>
    unfold lowAz at h
    rw [Bool.and_eq_true, decide_eq_true_eq, decide_eq_true_eq] at h
    have := az_in ⟨c - 97, by omega⟩
    have e : 97 + (c - 97) = c := by omega
    rw [show (97 + (⟨c - 97, by omega⟩ : Fin 26).val) = c from e] at this
    exact decide_eq_true this
  | false => exact decide_eq_false fun z => by rw [az_out c z] at h; cases h
theorem az_list : ("abcdefghijklmnopqrstuvwxyz" : Str).cps.toList = azL := by rw [az_eq]; rfl
def bLawIsWord : MS := (msRet (mAndV (mChain dLe dLe (mC (.int 1)) (mCall bLen (mCons (mVar 0) mNil)) (mC (.int 8))) (mCall bAll (mCons (mLc (mAny (mVar 0)) (gvName 1) mYes (mOp (orO isS2 (dInS false) (dDIn false)) (mVar 1) (mC (.str ("abcdefghijklmnopqrstuvwxyz" : Str)))) [1]) mNil))))
theorem law_is_word_ok {st : Store} {y : Str} (h : y.length ≤ lim) : mDef 2 bLawIsWord [.str y] st = .ok (.bl (isW y.cps.toList)) st := by
  have hl : y.cps.toList.length = y.length := by simp [Str.length]
  have c1 : mChain dLe dLe (mC (.int 1)) (mCall bLen (mCons (mVar 0) mNil)) (mC (.int 8)) (startD 2 [.str y]) st = .ok (.bl (decide (1 ≤ y.length) && decide (y.length ≤ 8))) st := by
    refine e_chain e_c (e_call (e_cons (e_var rfl) e_nil) (len_str h)) (le_ok ?_) e_c (le_ok ?_)
    · exact decide_eq_decide.mpr (by omega)
    · exact decide_eq_decide.mpr (by omega)
  cases hc : (decide (1 ≤ y.length) && decide (y.length ≤ 8)) with
  | false =>
    rw [hc] at c1
    have e : isW y.cps.toList = false := by unfold isW; rw [hl, hc]; rfl
    rw [e]
    exact d_flat (s_ret (e_andVf c1)) rfl rfl
  | true =>
    rw [hc] at c1
    have e : isW y.cps.toList = y.cps.toList.all lowAz := by unfold isW; rw [hl, hc]; rfl
    rw [e]
    have g := lc_map (g := gvName 1) (m := mOp (orO isS2 (dInS false) (dDIn false)) (mVar 1) (mC (.str ("abcdefghijklmnopqrstuvwxyz" : Str)))) (env := wipeD (startD 2 [.str y]) [1]) (st := st) (f := fun d => match d with
      | .str w => .bl (lowAz (w.cps.toList.getD 0 0))
      | d => d) (ds := y.cps.toList.map fun c => .str (oneSign c)) (fun d hd => by
        obtain ⟨c, hcm, rfl⟩ := List.mem_map.mp hd
        refine ⟨_, rfl, e_op (e_var rfl) e_c ?_⟩
        show (Res.ok (D.bl (xor false (decide (c ∈ ("abcdefghijklmnopqrstuvwxyz" : Str).cps.toList)))) st) = .ok (.bl (lowAz c)) st
        rw [az_list, az_low, Bool.false_xor])
    have e2 : (y.cps.toList.map fun c => D.str (oneSign c)).map (fun d => match d with
      | .str w => D.bl (lowAz (w.cps.toList.getD 0 0))
      | d => d) = y.cps.toList.map fun c => D.bl (lowAz c) := by
      rw [List.map_map]; rfl
    rw [e2] at g
    exact d_flat (s_ret (e_andVt c1 (e_call (e_cons (e_lc (e_anyS (e_var rfl)) (by rw [List.length_map, hl]; exact h) g) e_nil) all_map))) rfl rfl
end Draw
end
section
set_option Elab.async false
set_option linter.all false
set_option maxRecDepth 100000
set_option maxHeartbeats 1000000
namespace Draw
open PySem L2 DL

/-! ### word:pick -/
theorem s_asg {env env1 : DEnv} {st st1 : Store} {m : ME} {g : MG} {d : D} (h : m env st = .ok d st1) (hg : g d env st1 = some env1) : msAsg m g env st = .fl (.nx env1) st1 := by
  unfold msAsg; rw [h]; simp only [Res.to, hg]
theorem e_methS {env : DEnv} {st st1 st2 : Store} {m a : ME} {f : D → D → Store → Res D} {x : Str} {y : D} {r : Res D} (h : m env st = .ok (.str x) st1) (ha : a env st1 = .ok y st2) (hf : f (.str x) y st2 = r) : mMethS f m a env st = r := by
  unfold mMethS; rw [h]; simp only [Res.bind]; rw [ha]; exact hf
theorem colon : (":" : Str) = SX.S [58] := by decide +kernel
theorem nothing : ("" : Str) = SX.S [] := by decide +kernel
theorem one_ : ("1" : Str) = SX.S [49] := by decide +kernel
theorem two_ : ("2" : Str) = SX.S [50] := by decide +kernel
/-- cut at the first c -/
def brk (c : Nat) : List Nat → List Nat × Option (List Nat)
  | [] => ([], none)
  | x :: l => if x = c then ([], some l) else (x :: (brk c l).1, (brk c l).2)
theorem brk_none {c : Nat} : ∀ {l : List Nat}, (brk c l).2 = none → c ∉ l ∧ (brk c l).1 = l
  | [], _ => ⟨by simp, rfl⟩
  | x :: l, h => by
    unfold brk at h ⊢
    by_cases e : x = c
    · rw [if_pos e] at h; cases h
    · rw [if_neg e] at h ⊢
      obtain ⟨h1, h2⟩ := brk_none (l := l) h
      exact ⟨fun m => (List.mem_cons.mp m).elim (fun z => e z.symm) h1, by rw [h2]⟩
theorem brk_some {c : Nat} : ∀ {l r : List Nat}, (brk c l).2 = some r → c ∉ (brk c l).1 ∧ l = (brk c l).1 ++ c :: r
  | [], r, h => by cases h
  | x :: l, r, h => by
    unfold brk at h ⊢
    by_cases e : x = c
    · rw [if_pos e] at h ⊢
      cases h
      exact ⟨by simp, by rw [e]; rfl⟩
    · rw [if_neg e] at h ⊢
      obtain ⟨h1, h2⟩ := brk_some (l := l) h
      exact ⟨fun m => (List.mem_cons.mp m).elim (fun z => e z.symm) h1, congrArg (x :: ·) h2⟩
/-- a pick's number -/
def pickN (r : List Nat) : Option Nat := if r = [49] then some 1 else if r = [50] then some 2 else none
/-- what a text word or word:pick says -/
def pickV (l : List Nat) : Option (List Nat × Nat) := if isW (brk 58 l).1 = true then (match (brk 58 l).2 with
  | none => some ((brk 58 l).1, 0)
  | some r => (pickN r).map fun k => ((brk 58 l).1, k)) else none
/-- the three parts -/
def parts3 (l : List Nat) : D := match (brk 58 l).2 with
  | none => .tup [.str (SX.S l), .str (SX.S []), .str (SX.S [])]
  | some r => .tup [.str (SX.S (brk 58 l).1), .str (SX.S [58]), .str (SX.S r)]
theorem part_ok {st : Store} {l : List Nat} (h : l.length ≤ lim) : dPart (.str (SX.S l)) (.str (":" : Str)) st = .ok (parts3 l) st := by
  unfold dPart parts3
  rw [colon]
  simp only []
  rw [if_pos ⟨rfl, by rw [SX.S_len]; exact h⟩]
  cases hb : (brk 58 l).2 with
  | none =>
    have e := SX.partition_none (a := l) (b := [58]) (by simp) (TL.par_none1 (brk_none hb).1)
    simp only [e]
  | some r =>
    obtain ⟨h1, h2⟩ := brk_some hb
    have e0 : TL.par [58] [] l = some ((brk 58 l).1, r) := by
      have z := TL.par_part1 (s := 58) (S := []) (rest := r) (acc := []) h1
      conv => lhs; rw [h2]
      exact z
    have e := SX.partition_some (a := l) (b := [58]) (by simp) e0
    simp only [e]
theorem eq_str {st : Store} {a b : List Nat} : dEq (.str (SX.S a)) (.str (SX.S b)) st = .ok (.bl (decide (a = b))) st := by
  show Res.ok (D.bl (SX.S a == SX.S b)) st = _
  rw [SX.S_beq_eq]
theorem in12 {st : Store} {r : List Nat} : dDIn false (.str (SX.S r)) (.tup [.str (SX.S [49]), .str (SX.S [50])]) st = .ok (.bl (pickN r).isSome) st := by
  show Res.ok (D.bl (SX.S [49] == SX.S r || (SX.S [50] == SX.S r || false))) st = _
  rw [SX.S_beq_eq, SX.S_beq_eq, Bool.or_false]
  congr 2
  unfold pickN
  by_cases h1 : r = [49]
  · subst h1; decide
  · by_cases h2 : r = [50]
    · subst h2; decide
    · rw [if_neg h1, if_neg h2, decide_eq_false (fun z => h1 z.symm), decide_eq_false (fun z => h2 z.symm)]; rfl
def bIsPick (isw : List D → Store → Res D) : MS := (msSeq (msAsg (mMethS dPart (mVar 0) (mC (.str (":" : Str)))) (gvAny 3 (gvCons (gvName 1) (gvCons (gvName 2) (gvCons (gvName 3) gvNil))))) (msRet (mAndV (mCall isw (mCons (mVar 1) mNil)) (mOrV (mOp dEq (mVar 2) (mC (.str ("" : Str)))) (mOp (dDIn false) (mVar 3) (mTup (mCons (mC (.str ("1" : Str))) (mCons (mC (.str ("2" : Str))) mNil))))))))
theorem is_pick_ok {isw : List D → Store → Res D} (hw : ∀ (l : List Nat) (q : Store), l.length ≤ lim → isw [.str (SX.S l)] q = .ok (.bl (isW l)) q) {st : Store} {l : List Nat} (h : l.length ≤ lim) :
    mDef 4 (bIsPick isw) [.str (SX.S l)] st = .ok (.bl (pickV l).isSome) st := by
  have tup12 : ∀ (env : DEnv) (q : Store), mTup (mCons (mC (.str ("1" : Str))) (mCons (mC (.str ("2" : Str))) mNil)) env q = .ok (.tup [.str (SX.S [49]), .str (SX.S [50])]) q := fun env q => by
    refine e_tup (e_cons e_c (e_cons e_c e_nil)) ?_
    unfold okTup
    rw [if_pos (by rw [sizeLine_eq]; show 2 ≤ _; decide), one_, two_]
  have go_ : ∀ (p c r : List Nat), parts3 l = .tup [.str (SX.S p), .str (SX.S c), .str (SX.S r)] → p.length ≤ lim → (isW p && (decide (c = []) || (pickN r).isSome)) = (pickV l).isSome → mDef 4 (bIsPick isw) [.str (SX.S l)] st = .ok (.bl (pickV l).isSome) st := fun p c r hp hl e => by
    refine d_flat (s_seq (s_asg (env1 := [some (.str (SX.S l)), some (.str (SX.S p)), some (.str (SX.S c)), some (.str (SX.S r))]) (e_methS (e_var rfl) e_c (part_ok h)) (by rw [hp]; rfl)) (s_ret ?_)) rfl rfl
    rw [← e]
    have w1 : mCall isw (mCons (mVar 1) mNil) [some (.str (SX.S l)), some (.str (SX.S p)), some (.str (SX.S c)), some (.str (SX.S r))] st = .ok (.bl (isW p)) st := e_call (e_cons (e_var rfl) e_nil) (hw p st hl)
    have w2 : mOp dEq (mVar 2) (mC (.str ("" : Str))) [some (.str (SX.S l)), some (.str (SX.S p)), some (.str (SX.S c)), some (.str (SX.S r))] st = .ok (.bl (decide (c = []))) st := e_op (e_var rfl) e_c (by rw [nothing]; exact eq_str)
    have w3 : mOp (dDIn false) (mVar 3) (mTup (mCons (mC (.str ("1" : Str))) (mCons (mC (.str ("2" : Str))) mNil))) [some (.str (SX.S l)), some (.str (SX.S p)), some (.str (SX.S c)), some (.str (SX.S r))] st = .ok (.bl (pickN r).isSome) st := e_op (e_var rfl) (tup12 _ _) in12
    cases hi : isW p with
    | false => rw [hi] at w1; exact e_andVf w1
    | true =>
      rw [hi] at w1
      refine e_andVt w1 ?_
      cases hc : decide (c = []) with
      | true => rw [hc] at w2; exact e_orVt w2
      | false => rw [hc] at w2; exact e_orVf w2 w3
  cases hb : (brk 58 l).2 with
  | none =>
    obtain ⟨_, e1⟩ := brk_none hb
    refine go_ l [] [] (by unfold parts3; rw [hb]) h ?_
    unfold pickV
    rw [hb, e1]
    cases isW l <;> rfl
  | some r =>
    obtain ⟨_, e1⟩ := brk_some hb
    refine go_ (brk 58 l).1 [58] r (by unfold parts3; rw [hb]) (by
      have := congrArg List.length e1
      rw [List.length_append] at this
      omega) ?_
    unfold pickV
    rw [hb]
    show (isW (brk 58 l).1 && (decide (([58] : List Int) = []) || (pickN r).isSome)) = Option.isSome (if isW (brk 58 l).1 then Option.map (fun k => ((brk 58 l).1, k)) (pickN r) else none)
    cases isW (brk 58 l).1 <;> cases pickN r <;> rfl
end Draw
end
section
set_option Elab.async false
set_option linter.all false
set_option maxRecDepth 100000
set_option maxHeartbeats 1000000
namespace Draw
open PySem L2 DL

/-! ### the pair that word:pick says -/
theorem int1 : PySem.intText? (SX.S [49]) = some 1 := by decide +kernel
theorem int2 : PySem.intText? (SX.S [50]) = some 2 := by decide +kernel
/-- a pair as the program's value -/
def pairD (x : List Nat × Nat) : D := .tup [.str (SX.S x.1), .int x.2]
theorem int_ok {st : Store} {r : List Nat} {k : Nat} (h : pickN r = some k) : orC isS1 bIntS bInt [.str (SX.S r)] st = .ok (.int k) st := by
  unfold pickN at h
  show bIntS [.str (SX.S r)] st = _
  unfold bIntS
  simp only []
  by_cases h1 : r = [49]
  · subst h1
    rw [if_pos rfl] at h
    cases h
    rw [if_pos (by rw [SX.S_len]; decide), int1]; rfl
  · rw [if_neg h1] at h
    by_cases h2 : r = [50]
    · subst h2
      rw [if_pos rfl] at h
      cases h
      rw [if_pos (by rw [SX.S_len]; decide), int2]; rfl
    · rw [if_neg h2] at h; cases h
def bPickOf : MS := (msSeq (msAsg (mMethS dPart (mVar 0) (mC (.str (":" : Str)))) (gvAny 3 (gvCons (gvName 1) (gvCons (gvName 2) (gvCons (gvName 3) gvNil))))) (msRet (mTup (mCons (mVar 1) (mCons (mIf (mTest (mOp dEq (mVar 2) (mC (.str ("" : Str))))) (mC (.int 0)) (mCall (orC isS1 bIntS bInt) (mCons (mVar 3) mNil))) mNil)))))
theorem tup2 {st : Store} {a b : D} : okTup [a, b] st = .ok (.tup [a, b]) st := by
  unfold okTup
  rw [if_pos (by rw [sizeLine_eq]; show 2 ≤ _; decide)]
theorem pick_of_ok {st : Store} {l : List Nat} {x : List Nat × Nat} (h : l.length ≤ lim) (hv : pickV l = some x) :
    mDef 4 bPickOf [.str (SX.S l)] st = .ok (pairD x) st := by
  unfold pickV at hv
  split at hv
  · rename_i hi
    cases hb : (brk 58 l).2 with
    | none =>
      obtain ⟨_, e1⟩ := brk_none hb
      rw [hb, e1] at hv
      cases hv
      refine d_low (s_seq (s_asg (env1 := [some (.str (SX.S l)), some (.str (SX.S l)), some (.str (SX.S [])), some (.str (SX.S []))]) (e_methS (e_var rfl) e_c (part_ok h)) (by unfold parts3; rw [hb]; rfl)) (s_ret (e_tup (e_cons (e_var rfl) (e_cons (e_ift (e_test (e_op (e_var rfl) e_c (by rw [nothing]; exact eq_str))) e_c) e_nil)) tup2))) rfl rfl
    | some r =>
      rw [hb] at hv
      replace hv : (pickN r).map (fun k => ((brk 58 l).1, k)) = some x := hv
      cases hk : pickN r with
      | none => rw [hk] at hv; cases hv
      | some k =>
        rw [hk] at hv
        cases hv
        refine d_low (s_seq (s_asg (env1 := [some (.str (SX.S l)), some (.str (SX.S (brk 58 l).1)), some (.str (SX.S [58])), some (.str (SX.S r))]) (e_methS (e_var rfl) e_c (part_ok h)) (by unfold parts3; rw [hb]; rfl)) (s_ret (e_tup (e_cons (e_var rfl) (e_cons (e_iff (e_test (e_op (e_var rfl) e_c (by rw [nothing]; exact eq_str))) (e_call (e_cons (e_var rfl) e_nil) (int_ok hk))) e_nil)) tup2))) rfl rfl
  · cases hv
end Draw
end
section
set_option Elab.async false
set_option linter.all false
set_option maxRecDepth 100000
set_option maxHeartbeats 1000000
namespace Draw
open PySem L2 DL

/-! ### the law's own reading of word:pick -/
def pairO : Option (List Nat × Nat) → D
  | none => .non
  | some x => pairD x
/-- the parts between colons -/
def partsL (l : List Nat) : List (List Nat) := TL.spl [58] 0 [] l
theorem parts_one {l : List Nat} (h : 58 ∉ l) : partsL l = [l] := TL.spl_last1 (acc := []) h
theorem parts_ne : ∀ (l : List Nat), 1 ≤ (partsL l).length := fun l => by
  cases hb : (brk 58 l).2 with
  | none => rw [parts_one (brk_none hb).1]; exact Nat.le_refl 1
  | some r =>
    obtain ⟨h1, h2⟩ := brk_some hb
    have e : partsL l = (brk 58 l).1 :: TL.spl [58] 0 [] r := by
      unfold partsL
      conv => lhs; rw [h2]
      exact TL.spl_part1 (s := 58) (S := []) (rest := r) (acc := []) h1
    rw [e]; exact Nat.succ_le_succ (Nat.zero_le _)
theorem parts_more {l r : List Nat} (h : (brk 58 l).2 = some r) : partsL l = (brk 58 l).1 :: partsL r := by
  obtain ⟨h1, h2⟩ := brk_some h
  unfold partsL
  conv => lhs; rw [h2]
  exact TL.spl_part1 (s := 58) (S := []) (rest := r) (acc := []) h1
theorem parts_two {l r : List Nat} (h : (brk 58 l).2 = some r) (h2 : 58 ∉ r) : partsL l = [(brk 58 l).1, r] := by
  rw [parts_more h, parts_one h2]
theorem parts_many {l r : List Nat} (h : (brk 58 l).2 = some r) (h2 : 58 ∈ r) : 2 < (partsL l).length := by
  rw [parts_more h]
  cases hb : (brk 58 r).2 with
  | none => exact absurd h2 (brk_none hb).1
  | some q =>
    rw [parts_more hb]
    have := parts_ne q
    show 2 < (partsL q).length + 1 + 1
    omega
theorem pickN_free {r : List Nat} (h : 58 ∈ r) : pickN r = none := by
  unfold pickN
  rw [if_neg (fun e => by rw [e] at h; revert h; decide), if_neg (fun e => by rw [e] at h; revert h; decide)]
theorem split_ok {st : Store} {l : List Nat} (h : l.length + 2 ≤ lim) : dSplit (.str (SX.S l)) (.str (":" : Str)) st = .ok (.lst ((partsL l).map fun p => .str (SX.S p))) st := by
  unfold dSplit
  rw [colon]
  simp only []
  rw [if_pos ⟨rfl, by rw [SX.S_len]; exact h⟩, SX.split_S (by simp) (by decide), List.map_map]
  rfl
def bPairOf (isw : List D → Store → Res D) : MS := (msSeq (msSet 1 (mMethS dSplit (mVar 0) (mC (.str (":" : Str))))) (msSeq (msIf (mOr (mTest (mOp dGt (mCall bLen (mCons (mVar 1) mNil)) (mC (.int 2)))) (mNot (mTest (mCall isw (mCons (mOp dIx (mVar 1) (mC (.int 0))) mNil))))) (msRet (mC .non)) msNext) (msSeq (msIf (mTest (mOp dEq (mCall bLen (mCons (mVar 1) mNil)) (mC (.int 1)))) (msRet (mTup (mCons (mVar 0) (mCons (mC (.int 0)) mNil)))) msNext) (msRet (mIf (mTest (mOp (dDIn false) (mOp dIx (mVar 1) (mC (.int 1))) (mTup (mCons (mC (.str ("1" : Str))) (mCons (mC (.str ("2" : Str))) mNil))))) (mTup (mCons (mOp dIx (mVar 1) (mC (.int 0))) (mCons (mMethL dIndex (mLst (mCons (mC (.str ("0" : Str))) (mCons (mC (.str ("1" : Str))) (mCons (mC (.str ("2" : Str))) mNil)))) (mCons (mOp dIx (mVar 1) (mC (.int 1))) mNil)) mNil))) (mC .non))))))
theorem e_methV {f : D → List D → Store → Res D} {m : ME} {ma : MA} {env : DEnv} {st st1 st2 : Store} {d : D} {ds xs : List D} {r : Res D} (h : m env st = .ok d st1) (hj : vl st1 d = some ds) (ha : ma env st1 = .ok xs st2) (hf : f d xs st2 = r) : mMethL f m ma env st = r := by
  unfold mMethL
  rw [h]
  simp only [Res.bind, hj]
  rw [ha]
  exact hf
theorem in12p {st : Store} {r : List Nat} {env : DEnv} {a : ME} (h : a env st = .ok (.str (SX.S r)) st) : mTest (mOp (dDIn false) a (mTup (mCons (mC (.str ("1" : Str))) (mCons (mC (.str ("2" : Str))) mNil)))) env st = .ok (pickN r).isSome st := by
  refine e_test (e_op h (e_tup (e_cons e_c (e_cons e_c e_nil)) tup2) ?_)
  rw [one_, two_]
  exact in12
theorem zero_ : ("0" : Str) = SX.S [48] := by decide +kernel
theorem at012 {st : Store} {r : List Nat} {k : Nat} (h : pickN r = some k) : dIndex (.lst [.str ("0" : Str), .str ("1" : Str), .str ("2" : Str)]) [.str (SX.S r)] st = .ok (.int k) st := by
  unfold pickN at h
  by_cases h1 : r = [49]
  · subst h1
    rw [if_pos rfl] at h
    cases h
    rw [zero_, one_, two_]
    rfl
  · rw [if_neg h1] at h
    by_cases h2 : r = [50]
    · subst h2
      rw [if_pos rfl] at h
      cases h
      rw [zero_, one_, two_]
      rfl
    · rw [if_neg h2] at h; cases h
theorem pair_of_ok {isw : List D → Store → Res D} (hw : ∀ (l : List Nat) (q : Store), l.length ≤ lim → isw [.str (SX.S l)] q = .ok (.bl (isW l)) q) {st : Store} {l : List Nat} (h : l.length + 2 ≤ lim) :
    mDef 2 (bPairOf isw) [.str (SX.S l)] st = .ok (pairO (pickV l)) st := by
  have s1 : msSet 1 (mMethS dSplit (mVar 0) (mC (.str (":" : Str)))) (startD 2 [.str (SX.S l)]) st = .fl (.nx [some (.str (SX.S l)), some (.lst ((partsL l).map fun p => .str (SX.S p)))]) st := s_set (e_methS (e_var rfl) e_c (split_ok h))
  have len : ∀ (ps : List (List Nat)), mCall bLen (mCons (mVar 1) mNil) [some (.str (SX.S l)), some (.lst (ps.map fun p => .str (SX.S p)))] st = .ok (.int (ps.length : Nat)) st := fun ps => by
    have z := len_row (st := st) (r := .lst (ps.map fun p => .str (SX.S p))) rfl
    rw [List.length_map] at z
    exact e_call (e_cons (e_var rfl) e_nil) z
  have hd : ∀ (p : List Nat) (ps : List (List Nat)), mOp dIx (mVar 1) (mC (.int 0)) [some (.str (SX.S l)), some (.lst ((p :: ps).map fun p => .str (SX.S p)))] st = .ok (.str (SX.S p)) st := fun p ps => e_op (e_var rfl) e_c (ix_row rfl at0)
  have hd1 : ∀ (p q : List Nat), mOp dIx (mVar 1) (mC (.int 1)) [some (.str (SX.S l)), some (.lst ([p, q].map fun p => .str (SX.S p)))] st = .ok (.str (SX.S q)) st := fun p q => e_op (e_var rfl) e_c (ix_row rfl (by unfold atI; rfl))
  have isw_ : ∀ (p : List Nat) (ps : List (List Nat)), p.length ≤ lim → mNot (mTest (mCall isw (mCons (mOp dIx (mVar 1) (mC (.int 0))) mNil))) [some (.str (SX.S l)), some (.lst ((p :: ps).map fun p => .str (SX.S p)))] st = .ok (!(isW p)) st := fun p ps hl => e_not (e_test (e_call (e_cons (hd p ps) e_nil) (hw p st hl)))
  have gt : ∀ (ps : List (List Nat)) (b : Bool), decide (2 < ps.length) = b → mTest (mOp dGt (mCall bLen (mCons (mVar 1) mNil)) (mC (.int 2))) [some (.str (SX.S l)), some (.lst (ps.map fun p => .str (SX.S p)))] st = .ok b st := fun ps b e => e_test (e_op (len ps) e_c (gt_ok (by rw [← e]; exact decide_eq_decide.mpr (by omega))))
  cases hb : (brk 58 l).2 with
  | none =>
    obtain ⟨n1, e1⟩ := brk_none hb
    rw [parts_one n1] at s1
    unfold pickV
    rw [hb, e1]
    cases hi : isW l with
    | false =>
      have t := isw_ l [] (by omega)
      rw [hi] at t
      exact d_flat (s_seq s1 (s_ifR (e_orf (gt [l] false rfl) t) (s_ret e_c))) rfl rfl
    | true =>
      have t := isw_ l [] (by omega)
      rw [hi] at t
      exact d_low (s_seq s1 (s_skip (e_orf (gt [l] false rfl) t) (s_ifR (e_test (e_op (len [l]) e_c rfl)) (s_ret (e_tup (e_cons (e_var rfl) (e_cons e_c e_nil)) tup2))))) rfl rfl
  | some r =>
    obtain ⟨n1, e1⟩ := brk_some hb
    have lp : (brk 58 l).1.length ≤ lim := by
      have := congrArg List.length e1
      rw [List.length_append] at this
      omega
    by_cases h2 : 58 ∈ r
    · have e : pickV l = none := by
        unfold pickV
        rw [hb]
        show (if isW (brk 58 l).1 = true then (pickN r).map (fun k => ((brk 58 l).1, k)) else none) = none
        rw [pickN_free h2]
        cases isW (brk 58 l).1 <;> rfl
      rw [e]
      exact d_flat (s_seq s1 (s_ifR (e_ort (gt _ true (decide_eq_true (parts_many hb h2)))) (s_ret e_c))) rfl rfl
    · rw [parts_two hb h2] at s1
      have t := isw_ (brk 58 l).1 [r] lp
      unfold pickV
      rw [hb]
      cases hi : isW (brk 58 l).1 with
      | false =>
        rw [hi] at t
        exact d_flat (s_seq s1 (s_ifR (e_orf (gt [_, r] false rfl) t) (s_ret e_c))) rfl rfl
      | true =>
        rw [hi] at t
        show _ = Res.ok (pairO ((pickN r).map fun k => ((brk 58 l).1, k))) st
        have u := in12p (hd1 (brk 58 l).1 r)
        cases hk : pickN r with
        | none =>
          rw [hk] at u
          exact d_flat (s_seq s1 (s_skip (e_orf (gt [_, r] false rfl) t) (s_skip (e_test (e_op (len [_, r]) e_c rfl)) (s_ret (e_iff u e_c))))) rfl rfl
        | some k =>
          rw [hk] at u
          have v : mMethL dIndex (mLst (mCons (mC (.str ("0" : Str))) (mCons (mC (.str ("1" : Str))) (mCons (mC (.str ("2" : Str))) mNil)))) (mCons (mOp dIx (mVar 1) (mC (.int 1))) mNil) [some (.str (SX.S l)), some (.lst ([(brk 58 l).1, r].map fun p => .str (SX.S p)))] st = .ok (.int k) st :=
            e_methV (e_lst (e_cons e_c (e_cons e_c (e_cons e_c e_nil))) (by unfold okLst; rw [if_pos (by rw [sizeLine_eq]; show 3 ≤ _; decide)])) rfl (e_cons (hd1 _ r) e_nil) (at012 hk)
          exact d_low (s_seq s1 (s_skip (e_orf (gt [_, r] false rfl) t) (s_skip (e_test (e_op (len [_, r]) e_c rfl)) (s_ret (e_ift u (e_tup (e_cons (hd _ [r]) (e_cons v e_nil)) tup2)))))) rfl rfl
end Draw
end
section
set_option Elab.async false
set_option linter.all false
set_option maxRecDepth 100000
set_option maxHeartbeats 1000000
namespace Draw
open PySem L2 DL

/-! ### the line of a reading -/
def readC : List Nat := [114, 101, 97, 100]
theorem read_ : ("read" : Str) = SX.S readC := by decide +kernel
theorem blank : (" " : Str) = SX.S [32] := by decide +kernel
theorem c1_ : (":1" : Str) = SX.S [58, 49] := by decide +kernel
theorem c2_ : (":2" : Str) = SX.S [58, 50] := by decide +kernel
/-- a word with its pick -/
def pickS (x : List Nat × Nat) : List Nat := x.1 ++ (if x.2 = 0 then [] else [58, 48 + x.2])
def readL (xs : List (List Nat × Nat)) : List Nat := TL.joinL [32] (readC :: xs.map pickS)
def SmallP (x : List Nat × Nat) : Prop := x.1.length ≤ 8 ∧ x.2 ≤ 2
theorem pickS_len {x : List Nat × Nat} (h : SmallP x) : (pickS x).length ≤ 10 := by
  unfold pickS
  have := h.1
  split <;> simp <;> omega
theorem sum_len : ∀ {xs : List (List Nat × Nat)}, (∀ x ∈ xs, SmallP x) → (((xs.map pickS).map SX.S).map (·.length)).sum ≤ 10 * xs.length
  | [], _ => Nat.le_refl 0
  | x :: xs, h => by
    have a := pickS_len (h x List.mem_cons_self)
    have b := sum_len (xs := xs) fun y hy => h y (List.mem_cons_of_mem _ hy)
    show (SX.S (pickS x)).length + (((xs.map pickS).map SX.S).map (·.length)).sum ≤ 10 * (xs.length + 1)
    rw [SX.S_len]
    omega
/-- a datum that is a pair of a word and a pick, as a tuple or a list -/
def PairR (d : D) (x : List Nat × Nat) : Prop := rowOf d = some [.str (SX.S x.1), .int x.2]
def PairsR : List D → List (List Nat × Nat) → Prop
  | [], [] => True
  | d :: ds, x :: xs => PairR d x ∧ PairsR ds xs
  | _, _ => False
theorem PairsR.len : ∀ {ds : List D} {xs : List (List Nat × Nat)}, PairsR ds xs → ds.length = xs.length
  | [], [], _ => rfl
  | _ :: _, _ :: _, h => congrArg (· + 1) (PairsR.len h.2)
  | [], _ :: _, h => h.elim
  | _ :: _, [], h => h.elim
/-- each item of a list of pairs is made -/
theorem lc_pairs {g : MG} {m : ME} {env : DEnv} {st : Store} (hm : ∀ d x, PairR d x → SmallP x → ∃ env1, g d env st = some env1 ∧ m env1 st = .ok (.str (SX.S (pickS x))) st) : ∀ {ds : List D} {xs : List (List Nat × Nat)}, PairsR ds xs → (∀ x ∈ xs, SmallP x) →
    lcGo g mYes m ds env st = .ok (xs.map fun x => .str (SX.S (pickS x))) st
  | [], [], _, _ => rfl
  | d :: ds, x :: xs, h, hs => by
    obtain ⟨env1, h1, h2⟩ := hm d x h.1 (hs x List.mem_cons_self)
    have ih := lc_pairs hm h.2 fun y hy => hs y (List.mem_cons_of_mem _ hy)
    show (match g d env st with
      | none => Res.stuck
      | some env1 => _) = _
    rw [h1]
    simp only [mYes, Res.nox, Res.bind, if_true, h2, ih, List.map_cons]
  | [], _ :: _, h, _ => h.elim
  | _ :: _, [], h, _ => h.elim
theorem join_read {st : Store} {xs : List (List Nat × Nat)} (h : ∀ x ∈ xs, SmallP x) (hl : xs.length ≤ 1000) : dJoin (.str (" " : Str)) (.lst (.str ("read" : Str) :: xs.map fun x => .str (SX.S (pickS x)))) st = .ok (.str (SX.S (readL xs))) st := by
  have e : (D.str ("read" : Str) :: xs.map fun x => D.str (SX.S (pickS x))) = (((readC :: xs.map pickS).map SX.S).map D.str) := by
    rw [read_, List.map_cons, List.map_cons, List.map_map, List.map_map]; rfl
  rw [e]
  show (match D.strs (((readC :: xs.map pickS).map SX.S).map D.str) with
      | some ys => if (ys.map (fun z : Str => z.length)).sum + ys.length * (" " : Str).length ≤ lim then Res.ok (D.str (Txt.join (" " : Str) ys)) st else Res.stuck
      | none => Res.stuck) = _
  rw [strs_map]
  have b := sum_len h
  have n : ((readC :: xs.map pickS).map SX.S).length = xs.length + 1 := by simp
  have z : (((readC :: xs.map pickS).map SX.S).map (·.length)).sum ≤ 4 + 10 * xs.length := by
    show (SX.S readC).length + (((xs.map pickS).map SX.S).map (·.length)).sum ≤ _
    rw [SX.S_len]
    exact Nat.add_le_add (Nat.le_refl 4) b
  have o : (" " : Str).length = 1 := by rw [blank, SX.S_len]; rfl
  simp only []
  rw [if_pos (by rw [n, o]; unfold lim; omega), blank, SX.join_S]
  rfl
def bWriteReading : MS := (msRet (mMethS dJoin (mC (.str (" " : Str))) (mOp dAdd (mLst (mCons (mC (.str ("read" : Str))) mNil)) (mLc (mAny (mVar 0)) (gvAny 2 (gvCons (gvName 1) (gvCons (gvName 2) gvNil))) mYes (mIf (mTest (mOp dEq (mVar 2) (mC (.int 0)))) (mVar 1) (mJoined (mjCons (mUn dFmt (mVar 1)) (mjCons (mC (.str (":" : Str))) (mjCons (mUn dFmt (mVar 2)) mjNil))))) [1, 2]))))
def bReadingLine : MS := (msRet (mMethS dJoin (mC (.str (" " : Str))) (mOp dAdd (mLst (mCons (mC (.str ("read" : Str))) mNil)) (mLc (mAny (mVar 0)) (gvName 1) mYes (mOp dAdd (mOp dIx (mVar 1) (mC (.int 0))) (mOp dIx (mLst (mCons (mC (.str ("" : Str))) (mCons (mC (.str (":1" : Str))) (mCons (mC (.str (":2" : Str))) mNil)))) (mOp dIx (mVar 1) (mC (.int 1))))) [1]))))
/-- the line, from its items -/
theorem line_ok {st : Store} {n : Nat} {g : MG} {m : ME} {vs : List Nat} {r : D} {ds : List D} {xs : List (List Nat × Nat)} (h0 : (startD n [r])[0]? = some (some r)) (hr : rowOf r = some ds) (hp : PairsR ds xs) (hs : ∀ x ∈ xs, SmallP x) (hl : xs.length ≤ 1000)
    (hm : ∀ d x, PairR d x → SmallP x → ∃ env1, g d (wipeD (startD n [r]) vs) st = some env1 ∧ m env1 st = .ok (.str (SX.S (pickS x))) st) :
    mDef n (msRet (mMethS dJoin (mC (.str (" " : Str))) (mOp dAdd (mLst (mCons (mC (.str ("read" : Str))) mNil)) (mLc (mAny (mVar 0)) g mYes m vs)))) [r] st = .ok (.str (SX.S (readL xs))) st := by
  refine d_flat (s_ret (e_methS e_c (e_op (e_lst (e_cons e_c e_nil) (by unfold okLst; rw [if_pos (by rw [sizeLine_eq]; show 1 ≤ _; decide)])) (e_lc (e_any (e_var h0) hr) (by rw [hp.len]; unfold lim; omega) (lc_pairs hm hp hs)) ?_) (join_read hs hl))) rfl rfl
  show (if 1 + (xs.map fun x => D.str (SX.S (pickS x))).length ≤ lim then Res.ok (D.lst (.str ("read" : Str) :: xs.map fun x => .str (SX.S (pickS x)))) st else .stuck) = _
  rw [if_pos (by rw [List.length_map]; unfold lim; omega)]
theorem nil_cat (a : Str) : Str.empty ++ a = a := by
  rw [← SX.S_tl a]
  exact SX.S_cat [] _
theorem write_reading_ok {st : Store} {r : D} {ds : List D} {xs : List (List Nat × Nat)} (hr : rowOf r = some ds) (hp : PairsR ds xs) (hs : ∀ x ∈ xs, SmallP x) (hl : xs.length ≤ 1000) :
    mDef 3 bWriteReading [r] st = .ok (.str (SX.S (readL xs))) st := by
  refine line_ok rfl hr hp hs hl fun d x hd hx => ?_
  obtain ⟨b, e⟩ := row_vw (st := st) hd
  refine ⟨[some r, some (.str (SX.S x.1)), some (.int x.2)], by unfold gvAny; rw [e]; rfl, ?_⟩
  obtain ⟨w, k⟩ := x
  obtain ⟨h1, h2⟩ := hx
  have t : ∀ p : Bool, ((k : Int) == 0) = p → mTest (mOp dEq (mVar 2) (mC (.int 0))) [some r, some (.str (SX.S w)), some (.int k)] st = .ok p st := fun p z => e_test (e_op (e_var rfl) e_c (by rw [← z]; rfl))
  by_cases hk : k = 0
  · subst hk
    refine e_ift (t true rfl) (e_var ?_)
    show some (some (D.str (SX.S w))) = some (some (D.str (SX.S (w ++ []))))
    rw [List.append_nil]
  · refine e_iff (t false (by rw [beq_eq_false_iff_ne]; omega)) ?_
    have n : (toString (k : Int) : Str) = SX.S [48 + k] := by
      have := SX.num_S k
      rw [TL.numL_lt (by simp only [] at h2; omega)] at this
      exact this
    have e1 : mUn dFmt (mVar 1) [some r, some (.str (SX.S w)), some (.int k)] st = .ok (.str (SX.S w)) st := e_un (e_var rfl) (by unfold dFmt; simp only []; rw [if_pos (by rw [SX.S_len]; unfold lim; simp only [] at h1; omega)])
    have e2 : mUn dFmt (mVar 2) [some r, some (.str (SX.S w)), some (.int k)] st = .ok (.str (SX.S [48 + k])) st := e_un (e_var rfl) (by
      unfold dFmt; simp only []
      rw [if_pos, n]
      have : k = 1 ∨ k = 2 := by simp only [] at h2; omega
      rcases this with rfl | rfl <;> decide)
    unfold mJoined mjCons
    rw [e1]
    simp only [Res.bind, mC]
    rw [nil_cat, if_pos (by rw [SX.S_len]; unfold lim; simp only [] at h1; omega), colon, SX.S_cat]
    rw [if_pos (by rw [SX.S_len, List.length_append]; unfold lim; simp only [List.length_cons, List.length_nil] at *; omega), e2]
    simp only [mjNil]
    rw [SX.S_cat, if_pos (by rw [SX.S_len, List.length_append, List.length_append]; unfold lim; simp only [List.length_cons, List.length_nil] at *; omega)]
    unfold pickS
    simp only [hk, if_false]
    rw [List.append_assoc]; rfl
end Draw
end
section
set_option Elab.async false
set_option linter.all false
set_option maxRecDepth 100000
set_option maxHeartbeats 1000000
namespace Draw
open PySem L2 DL

/-! ### the law's own line of a reading -/
theorem at1 {a b : D} {r : List D} : atI (a :: b :: r) 1 = some b := by
  have e : ixN (a :: b :: r).length 1 = some 1 := by
    unfold ixN
    rw [if_pos (by decide), if_pos (by rw [List.length_cons, List.length_cons]; omega)]
    rfl
  unfold atI; rw [e]; rfl
/-- the ending that a pick makes -/
def endS (k : Nat) : List Nat := if k = 0 then [] else [58, 48 + k]
theorem ends_ok {k : Nat} (h : k ≤ 2) : atI [D.str ("" : Str), .str (":1" : Str), .str (":2" : Str)] (k : Int) = some (.str (SX.S (endS k))) := by
  have : k = 0 ∨ k = 1 ∨ k = 2 := by omega
  rcases this with rfl | rfl | rfl
  · rw [nothing]; rfl
  · rw [c1_]; rfl
  · rw [c2_]; rfl
theorem cat_ok {st : Store} {a b : List Nat} (h : a.length + b.length ≤ lim) : dAdd (.str (SX.S a)) (.str (SX.S b)) st = .ok (.str (SX.S (a ++ b))) st := by
  show (if (SX.S a).length + (SX.S b).length ≤ lim then Res.ok (D.str (SX.S a ++ SX.S b)) st else .stuck) = _
  rw [if_pos (by rw [SX.S_len, SX.S_len]; exact h), SX.S_cat]
theorem reading_line_ok {st : Store} {r : D} {ds : List D} {xs : List (List Nat × Nat)} (hr : rowOf r = some ds) (hp : PairsR ds xs) (hs : ∀ x ∈ xs, SmallP x) (hl : xs.length ≤ 1000) :
    mDef 2 bReadingLine [r] st = .ok (.str (SX.S (readL xs))) st := by
  refine line_ok rfl hr hp hs hl fun d x hd hx => ?_
  obtain ⟨h1, h2⟩ := hx
  refine ⟨[some r, some d], rfl, e_op (e_op (e_var rfl) e_c (ix_row hd at0)) (e_op (e_lst (e_cons e_c (e_cons e_c (e_cons e_c e_nil))) (by unfold okLst; rw [if_pos (by rw [sizeLine_eq]; show 3 ≤ _; decide)])) (e_op (e_var rfl) e_c (ix_row hd at1)) (ix_row rfl (ends_ok h2))) ?_⟩
  exact cat_ok (by unfold endS lim; split <;> simp only [List.length_cons, List.length_nil] <;> omega)
end Draw
end
section
set_option Elab.async false
set_option linter.all false
set_option maxRecDepth 100000
set_option maxHeartbeats 1000000
namespace Draw
open PySem L2 DL

/-! ### the lines of a work -/
/-- a reading's datum -/
def ReadR (d : D) (xs : List (List Nat × Nat)) : Prop := ∃ ds, rowOf d = some ds ∧ PairsR ds xs
def ReadsR : List D → List (List (List Nat × Nat)) → Prop
  | [], [] => True
  | d :: ds, x :: xs => ReadR d x ∧ ReadsR ds xs
  | _, _ => False
theorem ReadsR.len : ∀ {ds : List D} {xs : List (List (List Nat × Nat))}, ReadsR ds xs → ds.length = xs.length
  | [], [], _ => rfl
  | _ :: _, _ :: _, h => congrArg (· + 1) (ReadsR.len h.2)
  | [], _ :: _, h => h.elim
  | _ :: _, [], h => h.elim
def SmallR (xs : List (List Nat × Nat)) : Prop := (∀ x ∈ xs, SmallP x) ∧ xs.length ≤ 1000
def linesD (xss : List (List (List Nat × Nat))) : List D := xss.map fun xs => .str (SX.S (readL xs))
theorem lc_reads {g : MG} {m : ME} {env : DEnv} {st : Store} (hm : ∀ d xs, ReadR d xs → SmallR xs → ∃ env1, g d env st = some env1 ∧ m env1 st = .ok (.str (SX.S (readL xs))) st) : ∀ {ds : List D} {xss : List (List (List Nat × Nat))}, ReadsR ds xss → (∀ xs ∈ xss, SmallR xs) →
    lcGo g mYes m ds env st = .ok (linesD xss) st
  | [], [], _, _ => rfl
  | d :: ds, x :: xs, h, hs => by
    obtain ⟨env1, h1, h2⟩ := hm d x h.1 (hs x List.mem_cons_self)
    have ih := lc_reads hm h.2 fun y hy => hs y (List.mem_cons_of_mem _ hy)
    show (match g d env st with
      | none => Res.stuck
      | some env1 => _) = _
    rw [h1]
    simp only [mYes, Res.nox, Res.bind, if_true, h2, ih]
    rfl
  | [], _ :: _, h, _ => h.elim
  | _ :: _, [], h, _ => h.elim
theorem lows_lines : ∀ xss : List (List (List Nat × Nat)), D.lows 0 (linesD xss) = true
  | [] => rfl
  | xs :: xss => by
    show (true && D.lows 0 (linesD xss)) = true
    rw [lows_lines xss]; rfl
def bWriteWork (wr : List D → Store → Res D) : MS := (msRet (mCall bTuple (mCons (mLc (mAny (mVar 0)) (gvName 1) mYes (mCall wr (mCons (mVar 1) mNil)) [1]) mNil)))
theorem write_work_ok {wr : List D → Store → Res D} (hw : ∀ (d : D) (xs : List (List Nat × Nat)) (q : Store), ReadR d xs → SmallR xs → wr [d] q = .ok (.str (SX.S (readL xs))) q) {st : Store} {r : D} {ds : List D} {xss : List (List (List Nat × Nat))} (hr : rowOf r = some ds) (hp : ReadsR ds xss) (hs : ∀ xs ∈ xss, SmallR xs) (hl : xss.length ≤ lim) :
    mDef 2 (bWriteWork wr) [r] st = .ok (.tup (linesD xss)) st := by
  refine d_low (s_ret (e_call (e_cons (e_lc (e_any (e_var rfl) hr) (by rw [hp.len]; exact hl) (lc_reads (fun d xs h1 h2 => ⟨_, rfl, e_call (e_cons (e_var rfl) e_nil) (hw d xs st h1 h2)⟩) hp hs)) e_nil) rfl)) ?_ rfl
  show D.lows 0 (linesD xss) = true
  exact lows_lines xss
/-- write_reading, for write_work -/
theorem write_reading_r (d : D) (xs : List (List Nat × Nat)) (q : Store) (h : ReadR d xs) (hs : SmallR xs) : mDef 3 bWriteReading [d] q = .ok (.str (SX.S (readL xs))) q := by
  obtain ⟨ds, h1, h2⟩ := h
  exact write_reading_ok h1 h2 hs.1 hs.2
end Draw
end
section
set_option Elab.async false
set_option linter.all false
set_option maxRecDepth 100000
set_option maxHeartbeats 1000000
namespace Draw
open PySem L2 DL

/-! ### the reader of lines -/
/-- what its instance holds -/
def fsR (L : List D) (ln : Int) (r : D) (p : Int) : List (Str × D) := [("lines", .tup L), ("line", .int ln), ("words", r), ("place", .int p)]
theorem k12 : (("lines" : Str) == ("line" : Str)) = false := by decide +kernel
theorem k21 : (("line" : Str) == ("lines" : Str)) = false := by decide +kernel
theorem k31 : (("words" : Str) == ("lines" : Str)) = false := by decide +kernel
theorem k32 : (("words" : Str) == ("line" : Str)) = false := by decide +kernel
theorem k41 : (("place" : Str) == ("lines" : Str)) = false := by decide +kernel
theorem k42 : (("place" : Str) == ("line" : Str)) = false := by decide +kernel
theorem k43 : (("place" : Str) == ("words" : Str)) = false := by decide +kernel
variable {L : List D} {ln p : Int} {r : D}
theorem lk_lines : (fsR L ln r p).lookup ("lines" : Str) = some (.tup L) := by
  simp only [fsR, List.lookup_cons, beq_self_eq_true]
theorem lk_line : (fsR L ln r p).lookup ("line" : Str) = some (.int ln) := by
  simp only [fsR, List.lookup_cons, beq_self_eq_true, k21]
theorem lk_words : (fsR L ln r p).lookup ("words" : Str) = some r := by
  simp only [fsR, List.lookup_cons, beq_self_eq_true, k31, k32]
theorem lk_place : (fsR L ln r p).lookup ("place" : Str) = some (.int p) := by
  simp only [fsR, List.lookup_cons, beq_self_eq_true, k41, k42, k43]
theorem n12 : ¬ (("lines" : Str) = ("line" : Str)) := by decide +kernel
theorem n13 : ¬ (("lines" : Str) = ("words" : Str)) := by decide +kernel
theorem n14 : ¬ (("lines" : Str) = ("place" : Str)) := by decide +kernel
theorem n23 : ¬ (("line" : Str) = ("words" : Str)) := by decide +kernel
theorem n24 : ¬ (("line" : Str) = ("place" : Str)) := by decide +kernel
theorem n34 : ¬ (("words" : Str) = ("place" : Str)) := by decide +kernel
theorem put_line {x : Int} : putFD ("line" : Str) (.int x) (fsR L ln r p) = fsR L x r p := by
  simp only [fsR, putFD, if_neg n12, if_true]
theorem put_words {x : D} : putFD ("words" : Str) x (fsR L ln r p) = fsR L ln x p := by
  simp only [fsR, putFD, if_neg n13, if_neg n23, if_true]
theorem put_place {x : Int} : putFD ("place" : Str) (.int x) (fsR L ln r p) = fsR L ln r x := by
  simp only [fsR, putFD, if_neg n14, if_neg n24, if_neg n34, if_true]
theorem e_fld {n c : Nat} {Na : Nat → Str → Bool} {f : Str} {a : ME} {env : DEnv} {st st1 : Store} {j : Nat} {fs : List (Str × D)} {x : D} (ha : a env st = .ok (.box j) st1) (hj : st1[j]? = some (.ins c fs)) (hc : c < n) (hN : Na c f = true) (hx : fs.lookup f = some x) : mUn (dFld n Na f) a env st = .ok x st1 := by
  refine e_un ha ?_
  unfold dFld fv
  simp only [hj]
  rw [if_pos ⟨hc, hN⟩, hx]
theorem at_nat {ds : List D} {k : Nat} {x : D} (h : ds[k]? = some x) : atI ds (k : Int) = some x := by
  have hl : k < ds.length := (List.getElem?_eq_some_iff.mp h).1
  have e : ixN ds.length k = some k := by
    unfold ixN
    rw [if_pos (by omega), if_pos (by omega)]
    rfl
  unfold atI; rw [e]; exact h
/-- the parts between blanks -/
def wordsL (l : List Nat) : List (List Nat) := TL.spl [32] 0 [] l
theorem splitB_ok {st : Store} {l : List Nat} (h : l.length + 2 ≤ lim) : dSplit (.str (SX.S l)) (.str (" " : Str)) st = .ok (.lst ((wordsL l).map fun p => .str (SX.S p))) st := by
  unfold dSplit
  rw [blank]
  simp only []
  rw [if_pos ⟨rfl, by rw [SX.S_len]; exact h⟩, SX.split_S (by simp) (by decide), List.map_map]
  rfl
theorem e_raise {env : DEnv} {st st1 : Store} {c : Nat} {a b : Str} {x y : Int} {ma : MA} (h : ma env st = .ok [.int x, .int y] st1) (hs : [D.int x, D.int y].all shD = true) : msRaise c [a, b] ma env st = .exc c [(b, .int y), (a, .int x)] env st1 := by
  unfold msRaise
  rw [h]
  simp only [Res.to]
  rw [if_pos ⟨rfl, hs⟩]
  rfl
theorem d_exc {n : Nat} {m : MS} {ds : List D} {st st1 : Store} {c : Nat} {a b : Str} {x y : Int} {env1 : DEnv} (h : m (startD n ds) st = .exc c [(b, .int y), (a, .int x)] env1 st1) (hl : st1.length = st.length) : mDef n m ds st = .exc c [(b, .int y), (a, .int x)] st1 := by
  unfold mDef
  rw [h]
  simp only []
  rw [← hl, List.take_length]
  rfl
theorem s_seqX {m m2 : MS} {env env1 : DEnv} {st st1 : Store} {c : Nat} {fs : List (Str × D)} (h : m env st = .exc c fs env1 st1) : msSeq m m2 env st = .exc c fs env1 st1 := by
  unfold msSeq; rw [h]
def bHead (n : Nat) (J : Nat → Nat → Bool) (Na : Nat → Str → Bool) : MS := (msSeq (msSet 1 (mOp dAdd (mUn (dFld n Na ("line" : Str)) (mVar 0)) (mC (.int 1)))) (msSeq (msIf (mTest (mOp dEq (mVar 1) (mCall bLen (mCons (mUn (dFld n Na ("lines" : Str)) (mVar 0)) mNil)))) (msRet (mC .non)) msNext) (msSeq (msIf (mNot (mTest (mIsi1 n J (mOp dIx (mUn (dFld n Na ("lines" : Str)) (mVar 0)) (mVar 1)) (mC (.ty "str"))))) (msRaise 3 ["line", "word"] (mCons (mVar 1) (mCons (mC (.int 0)) mNil))) msNext) (msRet (mOp dIx (mMethS dSplit (mOp dIx (mUn (dFld n Na ("lines" : Str)) (mVar 0)) (mVar 1)) (mC (.str (" " : Str)))) (mC (.int 0)))))))
section
variable {n j k : Nat} {J : Nat → Nat → Bool} {Na : Nat → Str → Bool} {st : Store}
/-- its first steps -/
theorem hd_parts (hj : st[j]? = some (.ins 0 (fsR L ln r p))) (hn : 0 < n) (hN : ∀ f, f ∈ [("line" : Str), "lines", "place", "words"] → Na 0 f = true) (hk : ln + 1 = (k : Int)) :
    msSet 1 (mOp dAdd (mUn (dFld n Na ("line" : Str)) (mVar 0)) (mC (.int 1))) (startD 2 [.box j]) st = .fl (.nx [some (.box j), some (.int k)]) st
    ∧ mUn (dFld n Na ("lines" : Str)) (mVar 0) [some (.box j), some (.int k)] st = .ok (.tup L) st
    ∧ ∀ b : Bool, decide (k = L.length) = b → mTest (mOp dEq (mVar 1) (mCall bLen (mCons (mUn (dFld n Na ("lines" : Str)) (mVar 0)) mNil))) [some (.box j), some (.int k)] st = .ok b st := by
  have fl : ∀ env : DEnv, env[0]? = some (some (.box j)) → mUn (dFld n Na ("lines" : Str)) (mVar 0) env st = .ok (.tup L) st := fun env h => e_fld (e_var h) hj hn (hN _ (by simp)) lk_lines
  refine ⟨s_set (e_op (e_fld (e_var rfl) hj hn (hN _ (by simp)) lk_line) e_c ?_), fl _ rfl, fun b hb => e_test (e_op (e_var rfl) (e_call (e_cons (fl _ rfl) e_nil) (len_row rfl)) ?_)⟩
  · show Res.ok (D.int (ln + 1)) st = _
    rw [hk]
  · show Res.ok (D.bl ((k : Int) == ((L.length : Nat) : Int))) st = _
    rw [← hb]
    congr 2
    rw [Bool.eq_iff_iff, beq_iff_eq, decide_eq_true_iff]
    omega
theorem head_end (hj : st[j]? = some (.ins 0 (fsR L ln r p))) (hn : 0 < n) (hN : ∀ f, f ∈ [("line" : Str), "lines", "place", "words"] → Na 0 f = true) (hk : ln + 1 = (L.length : Int)) :
    mDef 2 (bHead n J Na) [.box j] st = .ok .non st := by
  obtain ⟨h1, h2, h3⟩ := hd_parts (n := n) (Na := Na) hj hn hN hk
  exact d_flat (s_seq h1 (s_ifR (h3 true (by simp)) (s_ret e_c))) rfl rfl
theorem head_odd {d : D} (hj : st[j]? = some (.ins 0 (fsR L ln r p))) (hn : 0 < n) (hN : ∀ f, f ∈ [("line" : Str), "lines", "place", "words"] → Na 0 f = true) (hk : ln + 1 = (k : Int)) (hd : L[k]? = some d) (hs : isi1 n J d (.ty "str") st = .ok (.bl false) st) (hb : [D.int k, D.int 0].all shD = true) :
    mDef 2 (bHead n J Na) [.box j] st = .exc 3 [("word", .int 0), ("line", .int k)] st := by
  obtain ⟨h1, h2, h3⟩ := hd_parts (n := n) (Na := Na) hj hn hN hk
  have hl : k < L.length := (List.getElem?_eq_some_iff.mp hd).1
  refine d_exc (s_seq h1 (s_skip (h3 false (decide_eq_false (by omega))) (s_seqX (s_ift (e_not (p := false) (e_test (e_op (e_op h2 (e_var rfl) (ix_row rfl (at_nat hd))) e_c hs))) (e_raise (e_cons (e_var rfl) (e_cons e_c e_nil)) hb))))) rfl
theorem head_str {l : List Nat} (hj : st[j]? = some (.ins 0 (fsR L ln r p))) (hn : 0 < n) (hN : ∀ f, f ∈ [("line" : Str), "lines", "place", "words"] → Na 0 f = true) (hk : ln + 1 = (k : Int)) (hd : L[k]? = some (.str (SX.S l))) (hll : l.length + 2 ≤ lim) {w : List Nat} {ws : List (List Nat)} (hw : wordsL l = w :: ws) :
    mDef 2 (bHead n J Na) [.box j] st = .ok (.str (SX.S w)) st := by
  obtain ⟨h1, h2, h3⟩ := hd_parts (n := n) (Na := Na) hj hn hN hk
  have hl : k < L.length := (List.getElem?_eq_some_iff.mp hd).1
  have ix : mOp dIx (mUn (dFld n Na ("lines" : Str)) (mVar 0)) (mVar 1) [some (.box j), some (.int k)] st = .ok (.str (SX.S l)) st := e_op h2 (e_var rfl) (ix_row rfl (at_nat hd))
  have sp := splitB_ok (st := st) hll
  rw [hw] at sp
  exact d_flat (s_seq h1 (s_skip (h3 false (decide_eq_false (by omega))) (s_skip (e_not (p := true) (e_test (e_op ix e_c rfl))) (s_ret (e_op (e_methS ix e_c sp) e_c (ix_row rfl at0)))))) rfl rfl
end
end Draw
end
section
set_option Elab.async false
set_option linter.all false
set_option maxRecDepth 100000
set_option maxHeartbeats 1000000
namespace Draw
open PySem L2 DL

/-! ### the reader goes on -/
section
variable {L : List D} {ln p : Int} {r : D} {n j k : Nat} {Na : Nat → Str → Bool} {st st1 st2 : Store} {env : DEnv}
theorem lk_head : (fsR L ln r p).lookup ("head" : Str) = none := by
  have a : (("head" : Str) == ("lines" : Str)) = false := by decide +kernel
  have b : (("head" : Str) == ("line" : Str)) = false := by decide +kernel
  have c : (("head" : Str) == ("words" : Str)) = false := by decide +kernel
  have d : (("head" : Str) == ("place" : Str)) = false := by decide +kernel
  simp only [fsR, List.lookup_cons, a, b, c, d, List.lookup_nil]
theorem e_meth {c : Nat} {z : Str} {m : List D → Store → Res D} {mo : ME} {ma : MA} {fs : List (Str × D)} {ds : List D} {res : Res D} (ho : mo env st = .ok (.box j) st1) (hj : st1[j]? = some (.ins c fs)) (hz : fs.lookup z = none) (ha : ma env st1 = .ok ds st2) (hm : m (.box j :: ds) st2 = res) : mMeth c z m mo ma env st = res := by
  unfold mMeth
  rw [ho]
  have e : fv st1 (.box j) = some (c, fs) := by unfold fv; simp only [hj]
  simp only [Res.bind, e]
  rw [if_pos ⟨trivial, hz⟩, ha]
  exact hm
theorem s_setFld {c : Nat} {f : Str} {mv mo : ME} {v : D} {fs : List (Str × D)} (hv : mv env st = .ok v st1) (ho : mo env st1 = .ok (.box j) st2) (hj : st2[j]? = some (.ins c fs)) (hc : c < n) (hN : Na c f = true) (hl : fs.length < 1000) (hlow : v.low j = true) : msSetFld n Na f mv mo env st = .fl (.nx env) (st2.set j (.ins c (putFD f v fs))) := by
  unfold msSetFld
  rw [hv]
  simp only [Res.to]
  rw [ho]
  simp only []
  unfold dSetFld
  simp only [hj]
  rw [if_pos ⟨hc, hN, hl, hlow⟩]
theorem s_augFld {c : Nat} {f : Str} {g : Int → Int → Int} {mv mo : ME} {i y : Int} {fs : List (Str × D)} (ho : mo env st = .ok (.box j) st1) (hj : st1[j]? = some (.ins c fs)) (hc : c < n) (hN : Na c f = true) (hx : fs.lookup f = some (.int i)) (hv : mv env st1 = .ok (.int y) st1) (hl : fs.length < 1000) : msAugFld n Na f g mo mv env st = .fl (.nx env) (st1.set j (.ins c (putFD f (.int (g i y)) fs))) := by
  unfold msAugFld
  rw [ho]
  have e : fv st1 (.box j) = some (c, fs) := by unfold fv; simp only [hj]
  simp only [Res.to, e, hx]
  rw [if_pos ⟨hc, hN⟩, hv]
  simp only [hj]
  rw [if_pos ⟨trivial, hl⟩]
theorem fs_small : (fsR L ln r p).length < 1000 := by show 4 < 1000; decide
def bTake (n : Nat) (Na : Nat → Str → Bool) (hd : List D → Store → Res D) : MS := (msSeq (msIf (mTest (mOp dNe (mMeth 0 ("head" : Str) hd (mVar 0) mNil) (mVar 1))) (msRaise 3 ["line", "word"] (mCons (mOp dAdd (mUn (dFld n Na ("line" : Str)) (mVar 0)) (mC (.int 1))) (mCons (mC (.int 0)) mNil))) msNext) (msSeq (msAugFld n Na ("line" : Str) (fun i j => i + j) (mVar 0) (mC (.int 1))) (msSeq (msSetFld n Na ("words" : Str) (mMethS dSplit (mOp dIx (mUn (dFld n Na ("lines" : Str)) (mVar 0)) (mUn (dFld n Na ("line" : Str)) (mVar 0))) (mC (.str (" " : Str)))) (mVar 0)) (msSetFld n Na ("place" : Str) (mC (.int 1)) (mVar 0)))))
theorem low_texts {i : Nat} : ∀ ws : List (List Nat), D.lows i (ws.map fun p => .str (SX.S p)) = true
  | [] => rfl
  | w :: ws => by
    show (true && D.lows i (ws.map fun p => .str (SX.S p))) = true
    rw [low_texts ws]; rfl
theorem take_ok {hd : List D → Store → Res D} {l w : List Nat} (hj : st[j]? = some (.ins 0 (fsR L ln r p))) (hn : 0 < n) (hN : ∀ f, f ∈ [("line" : Str), "lines", "place", "words"] → Na 0 f = true) (hk : ln + 1 = (k : Int)) (hL : L[k]? = some (.str (SX.S l))) (hll : l.length + 2 ≤ lim)
    (hh : hd [.box j] st = .ok (.str (SX.S w)) st) :
    mDef 2 (bTake n Na hd) [.box j, .str (SX.S w)] st = .ok .non (st.set j (.ins 0 (fsR L k (.lst ((wordsL l).map fun p => .str (SX.S p))) 1))) := by
  have lt : j < st.length := (List.getElem?_eq_some_iff.mp hj).1
  have c1 : mTest (mOp dNe (mMeth 0 ("head" : Str) hd (mVar 0) mNil) (mVar 1)) (startD 2 [.box j, .str (SX.S w)]) st = .ok false st := by
    refine e_test (e_op (e_meth (e_var rfl) hj lk_head e_nil hh) (e_var rfl) ?_)
    show (Res.ok (D.bl (!(SX.S w == SX.S w))) st) = _
    rw [beq_self_eq_true]; rfl
  have c2 := s_augFld (n := n) (Na := Na) (env := startD 2 [.box j, .str (SX.S w)]) (f := "line") (g := fun i j => i + j) (mo := mVar 0) (mv := mC (.int 1)) (st := st) (e_var rfl) hj hn (hN _ (by simp)) lk_line e_c fs_small
  rw [put_line, hk] at c2
  have j2 : (st.set j (MO.ins 0 (fsR L k r p)))[j]? = some (.ins 0 (fsR L k r p)) := get_set hj
  have c3 := s_setFld (n := n) (Na := Na) (env := startD 2 [.box j, .str (SX.S w)]) (f := "words") (mo := mVar 0) (e_methS (e_op (e_fld (a := mVar 0) (f := "lines") (e_var rfl) j2 hn (hN _ (by simp)) lk_lines) (e_fld (a := mVar 0) (f := "line") (e_var rfl) j2 hn (hN _ (by simp)) lk_line) (ix_row rfl (at_nat hL))) e_c (splitB_ok hll)) (e_var rfl) j2 hn (hN _ (by simp)) fs_small (low_texts _)
  rw [put_words, set_same] at c3
  have j3 : (st.set j (MO.ins 0 (fsR L k (.lst ((wordsL l).map fun p => .str (SX.S p))) p)))[j]? = some (.ins 0 (fsR L k (.lst ((wordsL l).map fun p => .str (SX.S p))) p)) := get_set hj
  have c4 := s_setFld (n := n) (Na := Na) (env := startD 2 [.box j, .str (SX.S w)]) (f := "place") (mv := mC (.int 1)) (mo := mVar 0) e_c (e_var rfl) j3 hn (hN _ (by simp)) fs_small rfl
  rw [put_place, set_same] at c4
  exact d_nxL (s_skip c1 (s_seq c2 (s_seq c3 c4))) (by simp)
end
end Draw
end
section
set_option Elab.async false
set_option linter.all false
set_option maxRecDepth 100000
set_option maxHeartbeats 1000000
namespace Draw
open PySem L2 DL

/-! ### the reader where it cannot go on, and its end -/
section
variable {L : List D} {ln p : Int} {r : D} {n j k : Nat} {Na : Nat → Str → Bool} {st : Store}
theorem exc_meth {z : Str} {hd : List D → Store → Res D} {env : DEnv} {c : Nat} {fs gs : List (Str × D)} {e : Nat} (h0 : env[0]? = some (some (.box j))) (hj : st[j]? = some (.ins c fs)) (hz : fs.lookup z = none) (hh : hd [.box j] st = .exc e gs st) : mMeth c z hd (mVar 0) mNil env st = .exc e gs st := e_meth (e_var h0) hj hz e_nil hh
/-- the line that comes is none -/
theorem take_none {hd : List D → Store → Res D} {w : List Nat} (hj : st[j]? = some (.ins 0 (fsR L ln r p))) (hn : 0 < n) (hN : ∀ f, f ∈ [("line" : Str), "lines", "place", "words"] → Na 0 f = true) (hk : ln + 1 = (k : Int)) {d : D} {b : Bool} (hh : hd [.box j] st = .ok d st) (hd' : dEqS d (.str (SX.S w)) = some false) (hb : [D.int k, D.int 0].all shD = true) :
    mDef 2 (bTake n Na hd) [.box j, .str (SX.S w)] st = .exc 3 [("word", .int 0), ("line", .int k)] st := by
  have c1 : mTest (mOp dNe (mMeth 0 ("head" : Str) hd (mVar 0) mNil) (mVar 1)) (startD 2 [.box j, .str (SX.S w)]) st = .ok true st := by
    refine e_test (e_op (e_meth (e_var rfl) hj lk_head e_nil hh) (e_var rfl) ?_)
    unfold dNe dEq
    rw [hd']; rfl
  refine d_exc (s_seqX (s_ift c1 (e_raise (e_cons (e_op (e_fld (e_var rfl) hj hn (hN _ (by simp)) lk_line) e_c ?_) (e_cons e_c e_nil)) hb))) rfl
  show Res.ok (D.int (ln + 1)) st = _
  rw [hk]
/-- it is no text -/
theorem take_odd {hd : List D → Store → Res D} {w : List Nat} (hj : st[j]? = some (.ins 0 (fsR L ln r p))) (hh : hd [.box j] st = .exc 3 [("word", .int 0), ("line", .int k)] st) :
    mDef 2 (bTake n Na hd) [.box j, .str (SX.S w)] st = .exc 3 [("word", .int 0), ("line", .int k)] st := by
  refine d_exc (env1 := startD 2 [.box j, .str (SX.S w)]) (s_seqX ?_) rfl
  have e := exc_meth (hd := hd) (env := startD 2 [.box j, .str (SX.S w)]) rfl hj lk_head hh
  unfold msIf mTest mOp
  rw [e]
  rfl
def bPast (n : Nat) (Na : Nat → Str → Bool) (hd : List D → Store → Res D) : MS := (msIf (mTest (mNotN (mMeth 0 ("head" : Str) hd (mVar 0) mNil))) (msRaise 3 ["line", "word"] (mCons (mOp dAdd (mUn (dFld n Na ("line" : Str)) (mVar 0)) (mC (.int 1))) (mCons (mC (.int 0)) mNil))) msNext)
theorem past_end {hd : List D → Store → Res D} (hj : st[j]? = some (.ins 0 (fsR L ln r p))) (hh : hd [.box j] st = .ok .non st) : mDef 1 (bPast n Na hd) [.box j] st = .ok .non st := by
  have e := e_meth (c := 0) (z := "head") (m := hd) (mo := mVar 0) (ma := mNil) (env := startD 1 [.box j]) (e_var rfl) hj lk_head e_nil hh
  refine d_nxL (s_iff (e_test (p := false) ?_) s_next) rfl
  unfold mNotN
  exact e_un e rfl
theorem past_more {hd : List D → Store → Res D} {y : Str} (hj : st[j]? = some (.ins 0 (fsR L ln r p))) (hn : 0 < n) (hN : ∀ f, f ∈ [("line" : Str), "lines", "place", "words"] → Na 0 f = true) (hk : ln + 1 = (k : Int)) (hh : hd [.box j] st = .ok (.str y) st) (hb : [D.int k, D.int 0].all shD = true) : mDef 1 (bPast n Na hd) [.box j] st = .exc 3 [("word", .int 0), ("line", .int k)] st := by
  have e := e_meth (c := 0) (z := "head") (m := hd) (mo := mVar 0) (ma := mNil) (env := startD 1 [.box j]) (e_var rfl) hj lk_head e_nil hh
  refine d_exc (s_ift (e_test (p := true) (by unfold mNotN; exact e_un e rfl)) (e_raise (e_cons (e_op (e_fld (e_var rfl) hj hn (hN _ (by simp)) lk_line) e_c ?_) (e_cons e_c e_nil)) hb)) rfl
  show Res.ok (D.int (ln + 1)) st = _
  rw [hk]
end
end Draw
end
section
set_option Elab.async false
set_option linter.all false
set_option maxRecDepth 100000
set_option maxHeartbeats 1000000
namespace Draw
open PySem L2 DL

/-! ### the reader's next word -/
section
variable {L ds : List D} {ln : Int} {r x : D} {n j k cg : Nat} {Na : Nat → Str → Bool} {st : Store}
theorem e_callV {m : List D → Store → Res D} {mf : ME} {ma : MA} {env : DEnv} {st1 st2 : Store} {xs : List D} {res : Res D} (hf : mf env st = .ok (.cls cg) st1) (ha : ma env st1 = .ok xs st2) (hm : m xs st2 = res) : mCallV cg m mf ma env st = res := by
  unfold mCallV
  rw [hf]
  simp only [Res.bind, if_true]
  rw [ha]
  exact hm
def bOne (n : Nat) (Na : Nat → Str → Bool) (cg : Nat) (good : List D → Store → Res D) : MS := (msSeq (msIf (mOr (mTest (mOp dEq (mUn (dFld n Na ("place" : Str)) (mVar 0)) (mCall bLen (mCons (mUn (dFld n Na ("words" : Str)) (mVar 0)) mNil)))) (mNot (mTest (mCallV cg good (mVar 1) (mCons (mOp dIx (mUn (dFld n Na ("words" : Str)) (mVar 0)) (mUn (dFld n Na ("place" : Str)) (mVar 0))) mNil))))) (msRaise 3 ["line", "word"] (mCons (mUn (dFld n Na ("line" : Str)) (mVar 0)) (mCons (mUn (dFld n Na ("place" : Str)) (mVar 0)) mNil))) msNext) (msSeq (msAugFld n Na ("place" : Str) (fun i j => i + j) (mVar 0) (mC (.int 1))) (msRet (mOp dIx (mUn (dFld n Na ("words" : Str)) (mVar 0)) (mOp dSub (mUn (dFld n Na ("place" : Str)) (mVar 0)) (mC (.int 1)))))))
/-- what it looks at -/
theorem one_parts {good : List D → Store → Res D} {b : Bool} (hj : st[j]? = some (.ins 0 (fsR L ln r (k : Nat)))) (hn : 0 < n) (hN : ∀ f, f ∈ [("line" : Str), "lines", "place", "words"] → Na 0 f = true) (hr : rowOf r = some ds) (hx : ds[k]? = some x) (hg : good [x] st = .ok (.bl b) st) :
    mOr (mTest (mOp dEq (mUn (dFld n Na ("place" : Str)) (mVar 0)) (mCall bLen (mCons (mUn (dFld n Na ("words" : Str)) (mVar 0)) mNil)))) (mNot (mTest (mCallV cg good (mVar 1) (mCons (mOp dIx (mUn (dFld n Na ("words" : Str)) (mVar 0)) (mUn (dFld n Na ("place" : Str)) (mVar 0))) mNil)))) (startD 2 [.box j, .cls cg]) st = .ok (!b) st := by
  have hl : k < ds.length := (List.getElem?_eq_some_iff.mp hx).1
  have fp : mUn (dFld n Na ("place" : Str)) (mVar 0) (startD 2 [.box j, .cls cg]) st = .ok (.int k) st := e_fld (e_var rfl) hj hn (hN _ (by simp)) lk_place
  have fw : mUn (dFld n Na ("words" : Str)) (mVar 0) (startD 2 [.box j, .cls cg]) st = .ok r st := e_fld (e_var rfl) hj hn (hN _ (by simp)) lk_words
  refine e_orf (e_test (e_op fp (e_call (e_cons fw e_nil) (len_row hr)) ?_)) (e_not (e_test (e_callV (e_var rfl) (e_cons (e_op fw fp (ix_row hr (at_nat hx))) e_nil) hg)))
  show Res.ok (D.bl ((k : Int) == ((ds.length : Nat) : Int))) st = Res.ok (.bl false) st
  have : ((k : Int) == ((ds.length : Nat) : Int)) = false := by rw [beq_eq_false_iff_ne]; omega
  rw [this]
theorem one_ok {good : List D → Store → Res D} (hj : st[j]? = some (.ins 0 (fsR L ln r (k : Nat)))) (hn : 0 < n) (hN : ∀ f, f ∈ [("line" : Str), "lines", "place", "words"] → Na 0 f = true) (hr : rowOf r = some ds) (hx : ds[k]? = some x) (hg : good [x] st = .ok (.bl true) st) (h0 : x.low 0 = true) :
    mDef 2 (bOne n Na cg good) [.box j, .cls cg] st = .ok x (st.set j (.ins 0 (fsR L ln r ((k + 1 : Nat) : Int)))) := by
  have c2 := s_augFld (n := n) (Na := Na) (env := startD 2 [.box j, .cls cg]) (f := "place") (g := fun i j => i + j) (mo := mVar 0) (mv := mC (.int 1)) (st := st) (e_var rfl) hj hn (hN _ (by simp)) lk_place e_c fs_small
  rw [put_place] at c2
  have j2 : (st.set j (MO.ins 0 (fsR L ln r ((k : Int) + 1))))[j]? = some (.ins 0 (fsR L ln r ((k : Int) + 1))) := get_set hj
  have e3 : ((k + 1 : Nat) : Int) = (k : Int) + 1 := by omega
  rw [e3]
  refine d_low (s_skip (one_parts (b := true) hj hn hN hr hx hg) (s_seq c2 (s_ret (e_op (e_fld (e_var rfl) j2 hn (hN _ (by simp)) lk_words) (e_op (e_fld (e_var rfl) j2 hn (hN _ (by simp)) lk_place) e_c (r := .ok (.int k) _) ?_) (ix_row hr (at_nat hx)))))) h0 (by simp)
  show Res.ok (D.int ((k : Int) + 1 - 1)) _ = _
  rw [Int.add_sub_cancel]
theorem one_bad {good : List D → Store → Res D} {ln' : Nat} (hj : st[j]? = some (.ins 0 (fsR L ln r (k : Nat)))) (hn : 0 < n) (hN : ∀ f, f ∈ [("line" : Str), "lines", "place", "words"] → Na 0 f = true) (hr : rowOf r = some ds) (hx : ds[k]? = some x) (hg : good [x] st = .ok (.bl false) st) (hb : [D.int ln, D.int k].all shD = true) :
    mDef 2 (bOne n Na cg good) [.box j, .cls cg] st = .exc 3 [("word", .int k), ("line", .int ln)] st :=
  d_exc (s_seqX (s_ift (one_parts (b := false) hj hn hN hr hx hg) (e_raise (e_cons (e_fld (e_var rfl) hj hn (hN _ (by simp)) lk_line) (e_cons (e_fld (e_var rfl) hj hn (hN _ (by simp)) lk_place) e_nil)) hb))) rfl
def bShut (n : Nat) (Na : Nat → Str → Bool) : MS := (msIf (mTest (mOp dLt (mUn (dFld n Na ("place" : Str)) (mVar 0)) (mCall bLen (mCons (mUn (dFld n Na ("words" : Str)) (mVar 0)) mNil)))) (msRaise 3 ["line", "word"] (mCons (mUn (dFld n Na ("line" : Str)) (mVar 0)) (mCons (mUn (dFld n Na ("place" : Str)) (mVar 0)) mNil))) msNext)
/-- behind the last word -/
theorem shut_ok (hj : st[j]? = some (.ins 0 (fsR L ln r (ds.length : Nat)))) (hn : 0 < n) (hN : ∀ f, f ∈ [("line" : Str), "lines", "place", "words"] → Na 0 f = true) (hr : rowOf r = some ds) :
    mDef 1 (bShut n Na) [.box j] st = .ok .non st :=
  d_nxL (s_iff (e_test (e_op (e_fld (e_var rfl) hj hn (hN _ (by simp)) lk_place) (e_call (e_cons (e_fld (e_var rfl) hj hn (hN _ (by simp)) lk_words) e_nil) (len_row hr)) (lt_ok (by simp)))) s_next) rfl
end
end Draw
end
section
set_option Elab.async false
set_option linter.all false
set_option maxRecDepth 100000
set_option maxHeartbeats 1000000
namespace Draw
open PySem L2 DL

/-! ### the rest of a line -/
section
variable {L ds : List D} {ln : Int} {r x : D} {n j k cg : Nat} {Na : Nat → Str → Bool} {st0 : Store}
theorem lk_one {p : Int} : (fsR L ln r p).lookup ("one" : Str) = none := by
  have a : (("one" : Str) == ("lines" : Str)) = false := by decide +kernel
  have b : (("one" : Str) == ("line" : Str)) = false := by decide +kernel
  have c : (("one" : Str) == ("words" : Str)) = false := by decide +kernel
  have d : (("one" : Str) == ("place" : Str)) = false := by decide +kernel
  simp only [fsR, List.lookup_cons, a, b, c, d, List.lookup_nil]
theorem lk_shut {p : Int} : (fsR L ln r p).lookup ("shut" : Str) = none := by
  have a : (("shut" : Str) == ("lines" : Str)) = false := by decide +kernel
  have b : (("shut" : Str) == ("line" : Str)) = false := by decide +kernel
  have c : (("shut" : Str) == ("words" : Str)) = false := by decide +kernel
  have d : (("shut" : Str) == ("place" : Str)) = false := by decide +kernel
  simp only [fsR, List.lookup_cons, a, b, c, d, List.lookup_nil]
/-- the store while the rest is gone through -/
def stK (st0 : Store) (j : Nat) (L : List D) (ln : Int) (r : D) (k : Nat) (f : List D) : Store := st0.set j (.ins 0 (fsR L ln r (k : Nat))) ++ [.lst f]
theorem stK_rd {f : List D} (hj : j < st0.length) : (stK st0 j L ln r k f)[j]? = some (.ins 0 (fsR L ln r (k : Nat))) := by
  unfold stK
  rw [List.getElem?_append_left (by simpa using hj)]
  simp [hj]
theorem stK_f {f : List D} : (stK st0 j L ln r k f)[st0.length]? = some (.lst f) := by
  unfold stK
  rw [List.getElem?_append_right (by simp)]
  simp
theorem stK_set {f : List D} {k2 : Nat} (hj : j < st0.length) : (stK st0 j L ln r k f).set j (.ins 0 (fsR L ln r (k2 : Nat))) = stK st0 j L ln r k2 f := by
  unfold stK
  rw [List.set_append_left _ _ (by simpa using hj), set_same]
theorem stK_app {f g : List D} : (stK st0 j L ln r k f).set st0.length (.lst g) = stK st0 j L ln r k g := by
  unfold stK
  rw [List.set_append_right _ _ (by simp)]
  simp
def cRest (n : Nat) (Na : Nat → Str → Bool) : MT := (mAnd (mTest (mOp dLt (mUn (dFld n Na ("place" : Str)) (mVar 0)) (mCall bLen (mCons (mUn (dFld n Na ("words" : Str)) (mVar 0)) mNil)))) (mTest (mOp dNe (mCall bLen (mCons (mVar 4) mNil)) (mVar 3))))
def lRest (one : List D → Store → Res D) : MS := (msDrop (mMethL dAppend (mVar 4) (mCons (mMeth 0 ("one" : Str) one (mVar 0) (mCons (mVar 1) mNil)) mNil)))
def envR (j cg : Nat) (st0 : Store) : DEnv := [some (.box j), some (.cls cg), some (.int 0), some .non, some (.box st0.length)]
theorem c_more {f : List D} (hj : j < st0.length) (hn : 0 < n) (hN : ∀ f, f ∈ [("line" : Str), "lines", "place", "words"] → Na 0 f = true) (hr : rowOf r = some ds) (hk : k < ds.length) : cRest n Na (envR j cg st0) (stK st0 j L ln r k f) = .ok true (stK st0 j L ln r k f) :=
  e_andt (e_test (e_op (e_fld (e_var rfl) (stK_rd hj) hn (hN _ (by simp)) lk_place) (e_call (e_cons (e_fld (e_var rfl) (stK_rd hj) hn (hN _ (by simp)) lk_words) e_nil) (len_row hr)) (lt_ok (decide_eq_true (by omega))))) (e_test (e_op (e_call (e_cons (e_var rfl) e_nil) (len_box stK_f)) (e_var rfl) rfl))
theorem c_none {f : List D} (hj : j < st0.length) (hn : 0 < n) (hN : ∀ f, f ∈ [("line" : Str), "lines", "place", "words"] → Na 0 f = true) (hr : rowOf r = some ds) : cRest n Na (envR j cg st0) (stK st0 j L ln r ds.length f) = .ok false (stK st0 j L ln r ds.length f) :=
  e_andf (e_test (e_op (e_fld (e_var rfl) (stK_rd hj) hn (hN _ (by simp)) lk_place) (e_call (e_cons (e_fld (e_var rfl) (stK_rd hj) hn (hN _ (by simp)) lk_words) e_nil) (len_row hr)) (lt_ok (decide_eq_false (by omega)))))
theorem l_step {one : List D → Store → Res D} {f : List D} (hj : j < st0.length) (hx : one [.box j, .cls cg] (stK st0 j L ln r k f) = .ok x (stK st0 j L ln r (k + 1) f)) (h0 : x.low 0 = true) (hl : f.length < lim) :
    lRest one (envR j cg st0) (stK st0 j L ln r k f) = .fl (.nx (envR j cg st0)) (stK st0 j L ln r (k + 1) (f ++ [x])) := by
  refine s_drop (d := .non) (e_methL (e_var rfl) stK_f (e_cons (e_meth (e_var rfl) (stK_rd hj) lk_one (e_cons (e_var rfl) e_nil) hx) e_nil) ?_)
  rw [app_ok stK_f hl (low_up x h0), stK_app]
theorem w_step {c : MT} {b : MS} {f : Nat} {env env1 : DEnv} {st st1 st2 : Store} (h : c env st = .ok true st1) (hb : b env st1 = .fl (.nx env1) st2) : whileL c b (f + 1) env st = whileL c b f env1 st2 := by
  conv => lhs; unfold whileL
  rw [h]
  simp only [Res.to, if_true]
  rw [hb]
theorem rest_run {one : List D → Store → Res D} {m : Nat} (hj : j < st0.length) (hn : 0 < n) (hN : ∀ f, f ∈ [("line" : Str), "lines", "place", "words"] → Na 0 f = true) (hr : rowOf r = some ds) (hm : m ≤ ds.length)
    (ho : ∀ k x f, k < m → ds[k]? = some x → one [.box j, .cls cg] (stK st0 j L ln r k f) = .ok x (stK st0 j L ln r (k + 1) f)) (h0 : ∀ x ∈ ds, x.low 0 = true) :
    ∀ (c k fuel : Nat) (f : List D), k + c = m → f.length + c ≤ lim → whileL (cRest n Na) (lRest one) (fuel + c) (envR j cg st0) (stK st0 j L ln r k f) = whileL (cRest n Na) (lRest one) fuel (envR j cg st0) (stK st0 j L ln r m (f ++ (ds.drop k).take c))
  | 0, k, fuel, f, e, _ => by
    obtain rfl : k = m := e
    rw [List.take_zero, List.append_nil]; rfl
  | c + 1, k, fuel, f, e, hl => by
    have hk : k < ds.length := by omega
    have hx : ds[k]? = some ds[k] := List.getElem?_eq_getElem hk
    have s1 := l_step (one := one) (cg := cg) (f := f) hj (ho k _ f (by omega) hx) (h0 _ (List.getElem_mem hk)) (by omega)
    have ih := rest_run hj hn hN hr hm ho h0 c (k + 1) fuel (f ++ [ds[k]]) (by omega) (by rw [List.length_append]; show f.length + 1 + c ≤ lim; omega)
    show whileL (cRest n Na) (lRest one) (fuel + c + 1) _ _ = _
    rw [w_step (c_more hj hn hN hr hk) s1, ih, List.append_assoc]
    congr 2
    rw [List.drop_eq_getElem_cons hk, List.take_succ_cons]
    rfl
/-- all are good -/
theorem rest_all {one : List D → Store → Res D} (hj : j < st0.length) (hn : 0 < n) (hN : ∀ f, f ∈ [("line" : Str), "lines", "place", "words"] → Na 0 f = true) (hr : rowOf r = some ds)
    (ho : ∀ k x f, k < ds.length → ds[k]? = some x → one [.box j, .cls cg] (stK st0 j L ln r k f) = .ok x (stK st0 j L ln r (k + 1) f)) (h0 : ∀ x ∈ ds, x.low 0 = true) (hk : k ≤ ds.length) (hl : ds.length < 100000) :
    msWhile (cRest n Na) (lRest one) (envR j cg st0) (stK st0 j L ln r k []) = .fl (.nx (envR j cg st0)) (stK st0 j L ln r ds.length (ds.drop k)) := by
  have g := rest_run (one := one) (cg := cg) (m := ds.length) hj hn hN hr (Nat.le_refl _) ho h0 (ds.length - k) k (100000 - (ds.length - k) - 1 + 1) [] (by omega) (by unfold lim; simp only [List.length_nil]; omega)
  have e : 100000 - (ds.length - k) - 1 + 1 + (ds.length - k) = 100000 := by omega
  rw [e] at g
  unfold msWhile
  rw [g]
  unfold whileL
  rw [c_none hj hn hN hr]
  simp only [Res.to]
  rw [if_neg (by decide), List.nil_append, List.take_of_length_le (by rw [List.length_drop]; omega)]
/-- the m-th is the first that is not -/
theorem rest_bad {one : List D → Store → Res D} {m e : Nat} {gs : List (Str × D)} (hj : j < st0.length) (hn : 0 < n) (hN : ∀ f, f ∈ [("line" : Str), "lines", "place", "words"] → Na 0 f = true) (hr : rowOf r = some ds)
    (ho : ∀ k x f, k < m → ds[k]? = some x → one [.box j, .cls cg] (stK st0 j L ln r k f) = .ok x (stK st0 j L ln r (k + 1) f)) (h0 : ∀ x ∈ ds, x.low 0 = true) (hk : k ≤ m) (hm : m < ds.length) (hl : ds.length < 100000)
    (hx : ∀ f, one [.box j, .cls cg] (stK st0 j L ln r m f) = .exc e gs (stK st0 j L ln r m f)) :
    msWhile (cRest n Na) (lRest one) (envR j cg st0) (stK st0 j L ln r k []) = .exc e gs (envR j cg st0) (stK st0 j L ln r m ((ds.drop k).take (m - k))) := by
  have g := rest_run (one := one) (cg := cg) (m := m) hj hn hN hr (by omega) ho h0 (m - k) k (100000 - (m - k) - 1 + 1) [] (by omega) (by unfold lim; simp only [List.length_nil]; omega)
  have e1 : 100000 - (m - k) - 1 + 1 + (m - k) = 100000 := by omega
  rw [e1] at g
  unfold msWhile
  rw [g, List.nil_append]
  unfold whileL
  rw [c_more hj hn hN hr hm]
  simp only [Res.to, if_true]
  have b : ∀ f, lRest one (envR j cg st0) (stK st0 j L ln r m f) = .exc e gs (envR j cg st0) (stK st0 j L ln r m f) := fun f => by
    have z : mMeth 0 ("one" : Str) one (mVar 0) (mCons (mVar 1) mNil) (envR j cg st0) (stK st0 j L ln r m f) = .exc e gs (stK st0 j L ln r m f) := e_meth (e_var rfl) (stK_rd hj) lk_one (e_cons (e_var rfl) e_nil) (hx f)
    have z2 : mCons (mMeth 0 ("one" : Str) one (mVar 0) (mCons (mVar 1) mNil)) mNil (envR j cg st0) (stK st0 j L ln r m f) = .exc e gs (stK st0 j L ln r m f) := by
      unfold mCons
      unfold mCons at z
      rw [z]; rfl
    unfold lRest msDrop mMethL
    rw [show mVar 4 (envR j cg st0) (stK st0 j L ln r m f) = .ok (.box st0.length) (stK st0 j L ln r m f) from e_var rfl]
    have hv : vl (stK st0 j L ln r m f) (.box st0.length) = some f := by unfold vl; simp only [stK_f]
    simp only [Res.bind, hv]
    rw [z2]
    rfl
  rw [b]
end
end Draw
end
section
set_option Elab.async false
set_option linter.all false
set_option maxRecDepth 100000
set_option maxHeartbeats 1000000
namespace Draw
open PySem L2 DL

/-! ### the rest of a line, whole -/
section
variable {L ds : List D} {ln : Int} {r x : D} {n j k cg : Nat} {Na : Nat → Str → Bool} {st0 : Store}
theorem d_lowT {n : Nat} {m : MS} {ds : List D} {st st1 : Store} {d : D} (h : m (startD n ds) st = .fl (.rt d) st1) (hd : d.low 0 = true) : mDef n m ds st = .ok d (st1.take st.length) := by
  rw [d_rt h]
  show Res.ok (D.sub _ d) _ = _
  rw [sub_id d hd]
theorem d_excT {n : Nat} {m : MS} {ds : List D} {st st1 : Store} {c : Nat} {a b : Str} {x y : Int} {env1 : DEnv} (h : m (startD n ds) st = .exc c [(b, .int y), (a, .int x)] env1 st1) : mDef n m ds st = .exc c [(b, .int y), (a, .int x)] (st1.take st.length) := by
  unfold mDef
  rw [h]
  rfl
theorem set_self {st : Store} {j : Nat} {a : MO} (h : st[j]? = some a) : st.set j a = st := by
  apply List.ext_getElem?
  intro i
  rw [List.getElem?_set]
  by_cases e : j = i
  · subst e
    have := (List.getElem?_eq_some_iff.mp h).1
    rw [if_pos rfl, if_pos this, h]
  · rw [if_neg e]
theorem stK_take {f : List D} : (stK st0 j L ln r k f).take st0.length = st0.set j (.ins 0 (fsR L ln r (k : Nat))) := by
  unfold stK
  have e : st0.length = (st0.set j (MO.ins 0 (fsR L ln r (k : Nat)))).length := by simp
  rw [e, List.take_left']
  rfl
theorem low_tup : ∀ {xs : List D}, (∀ x ∈ xs, x.low 0 = true) → D.lows 0 xs = true
  | [], _ => rfl
  | x :: xs, h => by
    show (x.low 0 && D.lows 0 xs) = true
    rw [h x List.mem_cons_self, low_tup fun y hy => h y (List.mem_cons_of_mem _ hy)]; rfl
def bRest (n : Nat) (Na : Nat → Str → Bool) (one shut : List D → Store → Res D) : MS := (msSeq (msSet 4 (mLstM mNil)) (msSeq (msWhile (cRest n Na) (lRest one)) (msSeq (msIf (mTest (mOp dLt (mCall bLen (mCons (mVar 4) mNil)) (mVar 2))) (msRaise 3 ["line", "word"] (mCons (mUn (dFld n Na ("line" : Str)) (mVar 0)) (mCons (mUn (dFld n Na ("place" : Str)) (mVar 0)) mNil))) msNext) (msSeq (msDrop (mMeth 0 ("shut" : Str) shut (mVar 0) mNil)) (msRet (mCall bTuple (mCons (mVar 4) mNil)))))))
theorem rest_start (hk : st0[j]? = some (.ins 0 (fsR L ln r (k : Nat)))) : msSet 4 (mLstM mNil) (startD 5 [.box j, .cls cg, .int 0, .non]) st0 = .fl (.nx (envR j cg st0)) (stK st0 j L ln r k []) := by
  refine s_set (d := .box st0.length) (e_lstM e_nil ?_)
  unfold okLstM
  rw [if_pos ⟨Nat.zero_le _, rfl⟩]
  unfold stK
  rw [set_self hk]
theorem rest_ok {one shut : List D → Store → Res D} (hk : st0[j]? = some (.ins 0 (fsR L ln r (k : Nat)))) (hn : 0 < n) (hN : ∀ f, f ∈ [("line" : Str), "lines", "place", "words"] → Na 0 f = true) (hr : rowOf r = some ds)
    (ho : ∀ k x f, k < ds.length → ds[k]? = some x → one [.box j, .cls cg] (stK st0 j L ln r k f) = .ok x (stK st0 j L ln r (k + 1) f)) (h0 : ∀ x ∈ ds, x.low 0 = true) (hl2 : k ≤ ds.length) (hl : ds.length < 100000)
    (hs : ∀ f, shut [.box j] (stK st0 j L ln r ds.length f) = .ok .non (stK st0 j L ln r ds.length f)) :
    mDef 5 (bRest n Na one shut) [.box j, .cls cg, .int 0, .non] st0 = .ok (.tup (ds.drop k)) (st0.set j (.ins 0 (fsR L ln r (ds.length : Nat)))) := by
  have hj : j < st0.length := (List.getElem?_eq_some_iff.mp hk).1
  have g := d_lowT (n := 5) (ds := [.box j, .cls cg, .int 0, .non]) (st := st0) (m := bRest n Na one shut) (d := .tup (ds.drop k)) (st1 := stK st0 j L ln r ds.length (ds.drop k)) (s_seq (rest_start hk) (s_seq (rest_all hj hn hN hr ho h0 hl2 hl) (s_skip (e_test (e_op (e_call (e_cons (e_var rfl) e_nil) (len_box stK_f)) (e_var rfl) (lt_ok (decide_eq_false (by omega))))) (s_seq (s_drop (e_meth (e_var rfl) (stK_rd hj) lk_shut e_nil (hs _))) (s_ret (e_call (e_cons (e_var rfl) e_nil) (by
    unfold bTuple vw
    simp only [stK_f]))))))) (low_tup fun x hx => h0 x (List.mem_of_mem_drop hx))
  rw [g, stK_take]
theorem rest_exc {one shut : List D → Store → Res D} {m : Nat} (hk : st0[j]? = some (.ins 0 (fsR L ln r (k : Nat)))) (hn : 0 < n) (hN : ∀ f, f ∈ [("line" : Str), "lines", "place", "words"] → Na 0 f = true) (hr : rowOf r = some ds)
    (ho : ∀ k x f, k < m → ds[k]? = some x → one [.box j, .cls cg] (stK st0 j L ln r k f) = .ok x (stK st0 j L ln r (k + 1) f)) (h0 : ∀ x ∈ ds, x.low 0 = true) (hl2 : k ≤ m) (hm : m < ds.length) (hl : ds.length < 100000) {y z : Int}
    (hx : ∀ f, one [.box j, .cls cg] (stK st0 j L ln r m f) = .exc 3 [("word", .int y), ("line", .int z)] (stK st0 j L ln r m f)) :
    mDef 5 (bRest n Na one shut) [.box j, .cls cg, .int 0, .non] st0 = .exc 3 [("word", .int y), ("line", .int z)] (st0.set j (.ins 0 (fsR L ln r (m : Nat)))) := by
  have hj : j < st0.length := (List.getElem?_eq_some_iff.mp hk).1
  have g := d_excT (n := 5) (ds := [.box j, .cls cg, .int 0, .non]) (st := st0) (m := bRest n Na one shut) (s_seq (rest_start hk) (s_seqX (rest_bad hj hn hN hr ho h0 hl2 hm hl hx)))
  rw [g, stK_take]
end
end Draw
end
section
set_option Elab.async false
set_option linter.all false
set_option maxRecDepth 100000
set_option maxHeartbeats 1000000
namespace Draw
open PySem L2 DL

/-! ### a reader made; the line of a reading read -/
section
variable {L : List D} {ln : Int} {r x : D} {n j k cg : Nat} {Na : Nat → Str → Bool} {st : Store}
def bInit (n : Nat) (Na : Nat → Str → Bool) : MS := (msSeq (msSetFld n Na ("lines" : Str) (mCall bTuple (mCons (mVar 1) mNil)) (mVar 0)) (msSeq (msSetFld n Na ("line" : Str) (mUn dNeg (mC (.int 1))) (mVar 0)) (msSeq (msSetFld n Na ("words" : Str) (mTup mNil) (mVar 0)) (msSetFld n Na ("place" : Str) (mC (.int 0)) (mVar 0)))))
theorem okT0 : okTup [] st = .ok (.tup []) st := by
  unfold okTup
  rw [if_pos (show ([] : List D).length ≤ sizeLine from Nat.zero_le _)]
theorem end_get {a : MO} : (st ++ [a])[st.length]? = some a := by simp
theorem end_set {a b : MO} : (st ++ [a]).set st.length b = st ++ [b] := by
  rw [List.set_append_right _ _ (Nat.le_refl _)]; simp
theorem make_ok {a : D} (hn : 0 < n) (hN : ∀ f, f ∈ [("line" : Str), "lines", "place", "words"] → Na 0 f = true) (ha : rowOf a = some L) (h0 : ∀ x ∈ L, x.low 0 = true) :
    dMake 0 (mDef 2 (bInit n Na)) [a] st = .ok (.box st.length) (st ++ [.ins 0 (fsR L (-1) (.tup []) 0)]) := by
  have tl : D.low st.length (.tup L) = true := low_up (.tup L) (low_tup h0)
  obtain ⟨b, hv⟩ := row_vw (st := st ++ [MO.ins 0 []]) ha
  have c1 := s_setFld (n := n) (Na := Na) (env := startD 2 [.box st.length, a]) (st := st ++ [.ins 0 []]) (f := "lines") (mv := mCall bTuple (mCons (mVar 1) mNil)) (mo := mVar 0) (v := .tup L) (st1 := st ++ [.ins 0 []]) (st2 := st ++ [.ins 0 []]) (fs := []) (e_call (e_cons (e_var rfl) e_nil) (by unfold bTuple; simp only [hv])) (e_var rfl) end_get hn (hN _ (by simp)) (by show 0 < 1000; decide) tl
  rw [end_set] at c1
  have p1 : putFD ("lines" : Str) (.tup L) [] = [(("lines" : Str), D.tup L)] := rfl
  rw [p1] at c1
  have c2 := s_setFld (n := n) (Na := Na) (env := startD 2 [.box st.length, a]) (st := st ++ [.ins 0 [(("lines" : Str), D.tup L)]]) (f := "line") (mv := mUn dNeg (mC (.int 1))) (mo := mVar 0) (v := .int (-1)) (e_un e_c rfl) (e_var rfl) end_get hn (hN _ (by simp)) (by show 1 < 1000; decide) rfl
  rw [end_set] at c2
  have p2 : putFD ("line" : Str) (.int (-1)) [(("lines" : Str), D.tup L)] = ([("lines", .tup L), ("line", .int (-1))] : List (Str × D)) := by
    simp only [putFD, if_neg n12]
  rw [p2] at c2
  have c3 := s_setFld (n := n) (Na := Na) (env := startD 2 [.box st.length, a]) (st := st ++ [.ins 0 ([("lines", .tup L), ("line", .int (-1))] : List (Str × D))]) (f := "words") (mv := mTup mNil) (mo := mVar 0) (v := .tup []) (e_tup e_nil okT0) (e_var rfl) end_get hn (hN _ (by simp)) (by show 2 < 1000; decide) rfl
  rw [end_set] at c3
  have p3 : putFD ("words" : Str) (.tup []) ([("lines", D.tup L), ("line", .int (-1))] : List (Str × D)) = ([("lines", .tup L), ("line", .int (-1)), ("words", .tup [])] : List (Str × D)) := by
    simp only [putFD, if_neg n13, if_neg n23]
  rw [p3] at c3
  have c4 := s_setFld (n := n) (Na := Na) (env := startD 2 [.box st.length, a]) (st := st ++ [.ins 0 ([("lines", .tup L), ("line", .int (-1)), ("words", .tup [])] : List (Str × D))]) (f := "place") (mv := mC (.int 0)) (mo := mVar 0) (v := .int 0) e_c (e_var rfl) end_get hn (hN _ (by simp)) (by show 3 < 1000; decide) rfl
  rw [end_set] at c4
  have p4 : putFD ("place" : Str) (.int 0) ([("lines", D.tup L), ("line", .int (-1)), ("words", .tup [])] : List (Str × D)) = fsR L (-1) (.tup []) 0 := by
    simp only [putFD, if_neg n14, if_neg n24, if_neg n34, fsR]
  rw [p4] at c4
  have g := d_nxL (n := 2) (ds := [.box st.length, a]) (st := st ++ [.ins 0 []]) (m := bInit n Na) (s_seq c1 (s_seq c2 (s_seq c3 c4))) (by simp)
  unfold dMake
  rw [g]
  rfl
end
end Draw
end
section
set_option Elab.async false
set_option linter.all false
set_option maxRecDepth 100000
set_option maxHeartbeats 1000000
namespace Draw
open PySem L2 DL

/-! ### the line of a reading read -/
section
variable {L xs : List D} {ln p : Int} {r : D} {j cg : Nat} {st st1 st2 : Store} {take rest pk : List D → Store → Res D}
theorem lk_take : (fsR L ln r p).lookup ("take" : Str) = none := by
  have a : (("take" : Str) == ("lines" : Str)) = false := by decide +kernel
  have b : (("take" : Str) == ("line" : Str)) = false := by decide +kernel
  have c : (("take" : Str) == ("words" : Str)) = false := by decide +kernel
  have d : (("take" : Str) == ("place" : Str)) = false := by decide +kernel
  simp only [fsR, List.lookup_cons, a, b, c, d, List.lookup_nil]
theorem lk_rest : (fsR L ln r p).lookup ("rest" : Str) = none := by
  have a : (("rest" : Str) == ("lines" : Str)) = false := by decide +kernel
  have b : (("rest" : Str) == ("line" : Str)) = false := by decide +kernel
  have c : (("rest" : Str) == ("words" : Str)) = false := by decide +kernel
  have d : (("rest" : Str) == ("place" : Str)) = false := by decide +kernel
  simp only [fsR, List.lookup_cons, a, b, c, d, List.lookup_nil]
theorem e_methD {env : DEnv} {c : Nat} {z : Str} {m : List D → Store → Res D} {dds ds : List D} {mo : ME} {ma : MA} {fs : List (Str × D)} {s1 s2 : Store} {res : Res D} (ho : mo env st = .ok (.box j) s1) (hj : s1[j]? = some (.ins c fs)) (hz : fs.lookup z = none) (ha : ma env s1 = .ok ds s2) (hm : m (.box j :: ds ++ dds) s2 = res) : mMethD c z m dds mo ma env st = res := by
  unfold mMethD
  rw [ho]
  have e : fv s1 (.box j) = some (c, fs) := by unfold fv; simp only [hj]
  simp only [Res.bind, e]
  rw [if_pos ⟨trivial, hz⟩, ha]
  exact hm
def bChapter (cg : Nat) (take rest pk : List D → Store → Res D) : MS := (msSeq (msDrop (mMeth 0 ("take" : Str) take (mVar 0) (mCons (mC (.str ("read" : Str))) mNil))) (msRet (mCall bTuple (mCons (mLc (mAny (mMethD 0 ("rest" : Str) rest [.non] (mVar 0) (mCons (mC (.cls cg)) (mCons (mC (.int 0)) mNil)))) (gvName 1) mYes (mCall pk (mCons (mVar 1) mNil)) [1]) mNil))))
theorem chapter_ok {L1 : List D} {ln1 p1 : Int} {r1 : D} {f : D → D} (hj : st[j]? = some (.ins 0 (fsR L ln r p))) (ht : take [.box j, .str ("read" : Str)] st = .ok .non st1) (hj1 : st1[j]? = some (.ins 0 (fsR L1 ln1 r1 p1)))
    (hr : rest [.box j, .cls cg, .int 0, .non] st1 = .ok (.tup xs) st2) (hp : ∀ x ∈ xs, pk [x] st2 = .ok (f x) st2 ∧ (f x).low 0 = true) (hl : xs.length ≤ lim) (h2 : st2.length = st.length) :
    mDef 2 (bChapter cg take rest pk) [.box j] st = .ok (.tup (xs.map f)) st2 := by
  refine d_low (s_seq (s_drop (e_meth (e_var rfl) hj lk_take (e_cons e_c e_nil) ht)) (s_ret (e_call (e_cons (e_lc (e_any (e_methD (e_var rfl) hj1 lk_rest (e_cons e_c (e_cons e_c e_nil)) hr) rfl) hl (lc_map (f := f) fun x hx => ⟨_, rfl, e_call (e_cons (e_var rfl) e_nil) (hp x hx).1⟩)) e_nil) rfl))) (low_tup fun y hy => ?_) h2
  obtain ⟨x, hx, rfl⟩ := List.mem_map.mp hy
  exact (hp x hx).2
theorem chapter_take {y z : Int} (hj : st[j]? = some (.ins 0 (fsR L ln r p))) (ht : take [.box j, .str ("read" : Str)] st = .exc 3 [("word", .int y), ("line", .int z)] st1) (h1 : st1.length = st.length) :
    mDef 2 (bChapter cg take rest pk) [.box j] st = .exc 3 [("word", .int y), ("line", .int z)] st1 := by
  refine d_exc (env1 := startD 2 [.box j]) (s_seqX ?_) h1
  have e := e_meth (c := 0) (z := "take") (m := take) (mo := mVar 0) (ma := mCons (mC (.str ("read" : Str))) mNil) (env := startD 2 [.box j]) (e_var rfl) hj lk_take (e_cons e_c e_nil) ht
  unfold msDrop
  rw [e]; rfl
theorem chapter_rest {y z : Int} {L1 : List D} {ln1 p1 : Int} {r1 : D} (hj : st[j]? = some (.ins 0 (fsR L ln r p))) (ht : take [.box j, .str ("read" : Str)] st = .ok .non st1) (hj1 : st1[j]? = some (.ins 0 (fsR L1 ln1 r1 p1)))
    (hr : rest [.box j, .cls cg, .int 0, .non] st1 = .exc 3 [("word", .int y), ("line", .int z)] st2) (h2 : st2.length = st.length) :
    mDef 2 (bChapter cg take rest pk) [.box j] st = .exc 3 [("word", .int y), ("line", .int z)] st2 := by
  refine d_exc (env1 := startD 2 [.box j]) (s_seq (s_drop (e_meth (e_var rfl) hj lk_take (e_cons e_c e_nil) ht)) ?_) h2
  have e := e_methD (c := 0) (z := "rest") (m := rest) (dds := [.non]) (mo := mVar 0) (ma := mCons (mC (.cls cg)) (mCons (mC (.int 0)) mNil)) (env := startD 2 [.box j]) (e_var rfl) hj1 lk_rest (e_cons e_c (e_cons e_c e_nil)) hr
  have e2 : mAny (mMethD 0 ("rest" : Str) rest [.non] (mVar 0) (mCons (mC (.cls cg)) (mCons (mC (.int 0)) mNil))) (startD 2 [.box j]) st1 = .exc 3 [("word", .int y), ("line", .int z)] st2 := by
    unfold mAny; rw [e]; rfl
  have e3 : mLc (mAny (mMethD 0 ("rest" : Str) rest [.non] (mVar 0) (mCons (mC (.cls cg)) (mCons (mC (.int 0)) mNil)))) (gvName 1) mYes (mCall pk (mCons (mVar 1) mNil)) [1] (startD 2 [.box j]) st1 = .exc 3 [("word", .int y), ("line", .int z)] st2 := by
    unfold mLc; rw [e2]; rfl
  have e4 : ∀ m : ME, m (startD 2 [.box j]) st1 = .exc 3 [("word", .int y), ("line", .int z)] st2 → msRet (mCall bTuple (mCons m mNil)) (startD 2 [.box j]) st1 = .exc 3 [("word", .int y), ("line", .int z)] (startD 2 [.box j]) st2 := fun m h => by
    unfold msRet mCall mCons
    rw [h]; rfl
  exact e4 _ e3
end
end Draw
end
section
set_option Elab.async false
set_option linter.all false
set_option maxRecDepth 100000
set_option maxHeartbeats 1000000
namespace Draw
open PySem L2 DL

/-! ### the lines of a work read: the loop -/
section
variable {st0 : Store} {RS : Nat → List (Str × D)} {hd chap past : List D → Store → Res D} {x : D}
/-- the store behind k chapters -/
def stW (st0 : Store) (RS : Nat → List (Str × D)) (k : Nat) (f : List D) : Store := st0 ++ [.ins 0 (RS k), .lst f]
theorem stW_rd {k : Nat} {f : List D} : (stW st0 RS k f)[st0.length]? = some (.ins 0 (RS k)) := by
  unfold stW
  rw [List.getElem?_append_right (Nat.le_refl _)]; simp
theorem stW_f {k : Nat} {f : List D} : (stW st0 RS k f)[st0.length + 1]? = some (.lst f) := by
  unfold stW
  rw [List.getElem?_append_right (by omega)]; simp
theorem stW_set {k : Nat} {f g : List D} : (stW st0 RS k f).set (st0.length + 1) (.lst g) = stW st0 RS k g := by
  unfold stW
  rw [List.set_append_right _ _ (by omega)]; simp
def cWork (hd : List D → Store → Res D) : MT := (mAnd (mTest (mOp dLt (mCall bLen (mCons (mVar 2) mNil)) (mC (.int 6)))) (mTest (mNotN (mMeth 0 ("head" : Str) hd (mVar 1) mNil))))
def lWork (chap : List D → Store → Res D) : MS := (msDrop (mMethL dAppend (mVar 2) (mCons (mCall chap (mCons (mVar 1) mNil)) mNil)))
def envW (x : D) (st0 : Store) : DEnv := [some x, some (.box st0.length), some (.box (st0.length + 1))]
theorem cw_more {k : Nat} {f : List D} {y : Str} (hz : (RS k).lookup ("head" : Str) = none) (h6 : f.length < 6) (hh : hd [.box st0.length] (stW st0 RS k f) = .ok (.str y) (stW st0 RS k f)) : cWork hd (envW x st0) (stW st0 RS k f) = .ok true (stW st0 RS k f) :=
  e_andt (e_test (e_op (e_call (e_cons (e_var rfl) e_nil) (len_box stW_f)) e_c (lt_ok (decide_eq_true (by omega))))) (e_test (by unfold mNotN; exact e_un (e_meth (e_var rfl) stW_rd hz e_nil hh) rfl))
theorem cw_none {k : Nat} {f : List D} (hz : (RS k).lookup ("head" : Str) = none) (h6 : f.length < 6) (hh : hd [.box st0.length] (stW st0 RS k f) = .ok .non (stW st0 RS k f)) : cWork hd (envW x st0) (stW st0 RS k f) = .ok false (stW st0 RS k f) :=
  e_andt (e_test (e_op (e_call (e_cons (e_var rfl) e_nil) (len_box stW_f)) e_c (lt_ok (decide_eq_true (by omega))))) (e_test (by unfold mNotN; exact e_un (e_meth (e_var rfl) stW_rd hz e_nil hh) rfl))
theorem cw_six {k : Nat} {f : List D} (h6 : f.length = 6) : cWork hd (envW x st0) (stW st0 RS k f) = .ok false (stW st0 RS k f) :=
  e_andf (e_test (e_op (e_call (e_cons (e_var rfl) e_nil) (len_box stW_f)) e_c (lt_ok (decide_eq_false (by omega)))))
theorem lw_step {k : Nat} {f : List D} {c : D} (hc : chap [.box st0.length] (stW st0 RS k f) = .ok c (stW st0 RS (k + 1) f)) (h0 : c.low 0 = true) (h6 : f.length < 6) : lWork chap (envW x st0) (stW st0 RS k f) = .fl (.nx (envW x st0)) (stW st0 RS (k + 1) (f ++ [c])) := by
  refine s_drop (d := .non) (e_methL (e_var rfl) stW_f (e_cons (e_call (e_cons (e_var rfl) e_nil) hc) e_nil) ?_)
  rw [app_ok stW_f (by unfold lim; omega) (low_up c h0), stW_set]
/-- m chapters in all; the head of each is a text -/
theorem work_run {m : Nat} {cs : List D} (hz : ∀ k, (RS k).lookup ("head" : Str) = none) (hm : m ≤ 6) (hcs : cs.length = m)
    (hh : ∀ k f, 1 ≤ k → k < m → ∃ y, hd [.box st0.length] (stW st0 RS k f) = .ok (.str y) (stW st0 RS k f))
    (hc : ∀ k f c, 1 ≤ k → cs[k]? = some c → chap [.box st0.length] (stW st0 RS k f) = .ok c (stW st0 RS (k + 1) f) ∧ c.low 0 = true) :
    ∀ (c k fuel : Nat), 1 ≤ k → k + c = m → whileL (cWork hd) (lWork chap) (fuel + c) (envW x st0) (stW st0 RS k (cs.take k)) = whileL (cWork hd) (lWork chap) fuel (envW x st0) (stW st0 RS m cs)
  | 0, k, fuel, _, e => by
    obtain rfl : k = m := e
    rw [List.take_of_length_le (by omega)]; rfl
  | c + 1, k, fuel, h1, e => by
    have hk : k < cs.length := by omega
    obtain ⟨y, hy⟩ := hh k (cs.take k) h1 (by omega)
    obtain ⟨g1, g2⟩ := hc k (cs.take k) cs[k] h1 (List.getElem?_eq_getElem hk)
    have lt : (cs.take k).length < 6 := by rw [List.length_take]; omega
    have ih := work_run hz hm hcs hh hc c (k + 1) fuel (by omega) (by omega)
    show whileL (cWork hd) (lWork chap) (fuel + c + 1) _ _ = _
    rw [w_step (cw_more (hz k) lt hy) (lw_step g1 g2 lt), ← List.take_succ_eq_append_getElem hk, ih]
end
end Draw
end
section
set_option Elab.async false
set_option linter.all false
set_option maxRecDepth 100000
set_option maxHeartbeats 1000000
namespace Draw
open PySem L2 DL

/-! ### the lines of a work read, whole -/
section
variable {st0 : Store} {RS : Nat → List (Str × D)} {mk hd chap past : List D → Store → Res D} {x : D}
def bWork (mk chap hd past : List D → Store → Res D) : MS := (msSeq (msSet 1 (mCall mk (mCons (mVar 0) mNil))) (msSeq (msSet 2 (mLstM (mCons (mCall chap (mCons (mVar 1) mNil)) mNil))) (msSeq (msWhile (cWork hd) (lWork chap)) (msSeq (msDrop (mMeth 0 ("past" : Str) past (mVar 1) mNil)) (msRet (mCall bTuple (mCons (mVar 2) mNil)))))))
theorem work_ok {m : Nat} {c0 : D} {cs : List D} (hmk : mk [x] st0 = .ok (.box st0.length) (st0 ++ [.ins 0 (RS 0)])) (h0c : chap [.box st0.length] (st0 ++ [.ins 0 (RS 0)]) = .ok c0 (st0 ++ [.ins 0 (RS 1)])) (e0 : cs[0]? = some c0)
    (hz : ∀ k, (RS k).lookup ("head" : Str) = none) (hzp : (RS m).lookup ("past" : Str) = none) (hm1 : 1 ≤ m) (hm : m ≤ 6) (hcs : cs.length = m) (hlow : ∀ c ∈ cs, c.low 0 = true)
    (hh : ∀ k f, 1 ≤ k → k < m → ∃ y, hd [.box st0.length] (stW st0 RS k f) = .ok (.str y) (stW st0 RS k f))
    (hc : ∀ k f c, 1 ≤ k → cs[k]? = some c → chap [.box st0.length] (stW st0 RS k f) = .ok c (stW st0 RS (k + 1) f))
    (he : m < 6 → hd [.box st0.length] (stW st0 RS m cs) = .ok .non (stW st0 RS m cs))
    (hp : past [.box st0.length] (stW st0 RS m cs) = .ok .non (stW st0 RS m cs)) :
    mDef 3 (bWork mk chap hd past) [x] st0 = .ok (.tup cs) st0 := by
  have lc0 : c0.low 0 = true := hlow c0 (List.mem_of_getElem? e0)
  have s1 : msSet 1 (mCall mk (mCons (mVar 0) mNil)) (startD 3 [x]) st0 = .fl (.nx [some x, some (.box st0.length), none]) (st0 ++ [.ins 0 (RS 0)]) := s_set (e_call (e_cons (e_var rfl) e_nil) hmk)
  have s2 : msSet 2 (mLstM (mCons (mCall chap (mCons (mVar 1) mNil)) mNil)) [some x, some (.box st0.length), none] (st0 ++ [.ins 0 (RS 0)]) = .fl (.nx (envW x st0)) (stW st0 RS 1 [c0]) := by
    refine s_set (d := .box (st0.length + 1)) (e_lstM (e_cons (e_call (e_cons (e_var rfl) e_nil) h0c) e_nil) ?_)
    unfold okLstM
    have l : (st0 ++ [MO.ins 0 (RS 1)]).length = st0.length + 1 := by simp
    have lw : D.lows (st0 ++ [MO.ins 0 (RS 1)]).length [c0] = true := by
      show (c0.low _ && true) = true
      rw [low_up c0 lc0]; rfl
    rw [if_pos ⟨by rw [sizeLine_eq]; show 1 ≤ _; decide, lw⟩, l]
    unfold stW
    rw [List.append_assoc]; rfl
  have t1 : cs.take 1 = [c0] := by
    cases cs with
    | nil => cases e0
    | cons c r => cases e0; rfl
  have run := work_run (x := x) (hd := hd) (chap := chap) hz hm hcs hh (fun k f c h1 h2 => ⟨hc k f c h1 h2, hlow c (List.mem_of_getElem? h2)⟩) (m - 1) 1 (100000 - (m - 1) - 1 + 1) (Nat.le_refl 1) (by omega)
  rw [t1, show 100000 - (m - 1) - 1 + 1 + (m - 1) = 100000 by omega] at run
  have cend : cWork hd (envW x st0) (stW st0 RS m cs) = .ok false (stW st0 RS m cs) := by
    by_cases h6 : m = 6
    · exact cw_six (by omega)
    · exact cw_none (hz m) (by omega) (he (by omega))
  have s3 : msWhile (cWork hd) (lWork chap) (envW x st0) (stW st0 RS 1 [c0]) = .fl (.nx (envW x st0)) (stW st0 RS m cs) := by
    unfold msWhile
    rw [run]
    unfold whileL
    rw [cend]
    simp only [Res.to]
    rw [if_neg (by decide)]
  have g := d_lowT (n := 3) (ds := [x]) (st := st0) (m := bWork mk chap hd past) (d := .tup cs) (st1 := stW st0 RS m cs) (s_seq s1 (s_seq s2 (s_seq s3 (s_seq (s_drop (e_meth (e_var rfl) stW_rd hzp e_nil hp)) (s_ret (e_call (e_cons (e_var rfl) e_nil) (by
    unfold bTuple vw
    simp only [stW_f]))))))) (low_tup hlow)
  rw [g]
  unfold stW
  simp
end
end Draw
end
section
set_option Elab.async false
set_option linter.all false
set_option maxRecDepth 100000
set_option maxHeartbeats 1000000
namespace Law
open PySem L2 DL Draw
theorem q_write_reading : m_write_reading = mDef 3 bWriteReading := rfl
theorem q_reading_line : m_law_reading_line = mDef 2 bReadingLine := rfl
theorem q_is_word : m_is_word = mDef 2 (bIsWord nC jC) := rfl
theorem q_law_is_word : m_law_is_word = mDef 2 bLawIsWord := rfl
theorem q_pick_of : m_pick_of = mDef 4 bPickOf := rfl
theorem q_is_pick : m_is_pick_text = mDef 4 (bIsPick m_is_word) := rfl
theorem q_pair_of : m_law_pair_of = mDef 2 (bPairOf m_law_is_word) := rfl
theorem q_write_work : m_write_work = mDef 2 (bWriteWork m_write_reading) := rfl
theorem q_head : m_LineReader_head = mDef 2 (bHead nC jC naC) := rfl
theorem q_take : m_LineReader_take = mDef 2 (bTake nC naC m_LineReader_head) := rfl
theorem q_fields : ∀ f, f ∈ [("line" : Str), "lines", "place", "words"] → naC 0 f = true := by
  intro f h
  simp only [List.mem_cons, List.not_mem_nil, or_false] at h
  rcases h with rfl | rfl | rfl | rfl <;> decide +kernel
theorem q_past : m_LineReader_past = mDef 1 (bPast nC naC m_LineReader_head) := rfl
theorem q_one : m_LineReader_one = mDef 2 (bOne nC naC 5 m_is_pick_text) := rfl
theorem q_shut : m_LineReader_shut = mDef 1 (bShut nC naC) := rfl
theorem q_rest : m_LineReader_rest = mDef 5 (bRest nC naC m_LineReader_one m_LineReader_shut) := rfl
theorem q_init : m_LineReader_init = mDef 2 (bInit nC naC) := rfl
theorem q_chapter : m_read_chapter = mDef 2 (bChapter 5 m_LineReader_take m_LineReader_rest m_pick_of) := rfl
theorem q_work : m_read_work = mDef 3 (bWork (dMake 0 m_LineReader_init) m_read_chapter m_LineReader_head m_LineReader_past) := rfl
end Law
end
section
set_option Elab.async false
set_option linter.all false
set_option maxRecDepth 100000
set_option maxHeartbeats 1000000
namespace Draw
open PySem L2 DL

/-! ### what holds behind a mirror's run: by its text, backwards -/
abbrev XQ := Nat → List (Str × D) → Store → Prop
def W {α : Type} (r : Res α) (Q : α → Store → Prop) (X : XQ) : Prop := match r with
  | .ok a st => Q a st
  | .exc c fs st => X c fs st
  | .stuck => False
structure KS where
  N : DEnv → Store → Prop := fun _ _ => False
  R : D → Store → Prop := fun _ _ => False
  B : DEnv → Store → Prop := fun _ _ => False
  C : DEnv → Store → Prop := fun _ _ => False
  X : Nat → List (Str × D) → DEnv → Store → Prop := fun _ _ _ _ => False
def WS (r : SRes) (k : KS) : Prop := match r with
  | .fl (.nx e) st => k.N e st
  | .fl (.rt d) st => k.R d st
  | .fl (.bk e) st => k.B e st
  | .fl (.ct e) st => k.C e st
  | .exc c fs e st => k.X c fs e st
  | .stuck => False
/-- nothing is raised -/
abbrev X0 : XQ := fun _ _ _ => False
section
variable {α β : Type} {r : Res α} {Q Q' : α → Store → Prop} {X X' : XQ} {env : DEnv} {st : Store} {a b c : ME} {ma : MA} {mt mu : MT} {m m2 : MS} {ks : KS}
theorem W.mono (h : W r Q X) (hq : ∀ a st, Q a st → Q' a st) (hx : ∀ c fs st, X c fs st → X' c fs st) : W r Q' X' := by
  cases r with
  | ok a st => exact hq _ _ h
  | exc c fs st => exact hx _ _ _ h
  | stuck => exact h
theorem W.imp (h : W r Q X) (hq : ∀ a st, Q a st → Q' a st) : W r Q' X := h.mono hq fun _ _ _ z => z
theorem W.imp0 (h : W r Q X0) (hq : ∀ a st, Q a st → Q' a st) : W r Q' X := h.mono hq fun _ _ _ z => z.elim
theorem W.get (h : W r Q X0) : ∃ a st, r = .ok a st ∧ Q a st := by
  cases r with
  | ok a st => exact ⟨a, st, rfl, h⟩
  | exc c fs st => exact h.elim
  | stuck => exact h.elim
theorem w_ok {a : α} : W (.ok a st) Q X = Q a st := rfl
theorem w_exc {c : Nat} {fs : List (Str × D)} : W (.exc c fs st : Res α) Q X = X c fs st := rfl
theorem w_bind {k : α → Store → Res β} {Q : β → Store → Prop} : W (r.bind k) Q X = W r (fun a st => W (k a st) Q X) X := by
  cases r <;> rfl
theorem ws_to {k : α → Store → SRes} : WS (r.to env k) ks = W r (fun a st => WS (k a st) ks) (fun c fs st => ks.X c fs env st) := by
  cases r <;> rfl
theorem w_ite {p : Prop} [Decidable p] {x y : Res α} : W (if p then x else y) Q X = ((p → W x Q X) ∧ (¬ p → W y Q X)) := by
  by_cases h : p <;> simp [h]
theorem ws_ite {p : Prop} [Decidable p] {x y : SRes} : WS (if p then x else y) ks = ((p → WS x ks) ∧ (¬ p → WS y ks)) := by
  by_cases h : p <;> simp [h]
theorem ws_fl_nx : WS (.fl (.nx env) st) ks = ks.N env st := rfl
theorem ws_fl_rt {d : D} : WS (.fl (.rt d) st) ks = ks.R d st := rfl
theorem ws_exc {c : Nat} {fs : List (Str × D)} : WS (.exc c fs env st) ks = ks.X c fs env st := rfl
/-! expressions -/
variable {QD : D → Store → Prop} {QA : List D → Store → Prop} {QB : Bool → Store → Prop}
theorem w_var {i : Nat} : W (mVar i env st) QD X = match env[i]? with | some (some d) => QD d st | _ => False := by
  unfold mVar
  rcases env[i]? with _ | _ | d <;> rfl
theorem w_c {d : D} : W (mC d env st) QD X = QD d st := rfl
theorem w_op {f : D → D → Store → Res D} : W (mOp f a b env st) QD X = W (a env st) (fun d st1 => W (b env st1) (fun e st2 => W (f d e st2) QD X) X) X := by
  unfold mOp; simp only [w_bind]
theorem w_un {f : D → Store → Res D} : W (mUn f a env st) QD X = W (a env st) (fun d st1 => W (f d st1) QD X) X := by
  unfold mUn; rw [w_bind]
theorem w_call {f : List D → Store → Res D} : W (mCall f ma env st) QD X = W (ma env st) (fun ds st1 => W (f ds st1) QD X) X := by
  unfold mCall; rw [w_bind]
theorem w_nil : W (mNil env st) QA X = QA [] st := rfl
theorem w_cons : W (mCons a ma env st) QA X = W (a env st) (fun d st1 => W (ma env st1) (fun ds st2 => QA (d :: ds) st2) X) X := by
  unfold mCons; simp only [w_bind, w_ok]
theorem w_test : W (mTest a env st) QB X = W (a env st) (fun d st1 => match d with | .bl b => QB b st1 | _ => False) X := by
  unfold mTest; rw [w_bind]; congr; funext d st1; cases d <;> rfl
theorem w_and : W (mAnd mt mu env st) QB X = W (mt env st) (fun c st1 => (c = true → W (mu env st1) QB X) ∧ (c = false → QB false st1)) X := by
  unfold mAnd; rw [w_bind]; congr; funext c st1; cases c <;> simp [W]
theorem w_or : W (mOr mt mu env st) QB X = W (mt env st) (fun c st1 => (c = true → QB true st1) ∧ (c = false → W (mu env st1) QB X)) X := by
  unfold mOr; rw [w_bind]; congr; funext c st1; cases c <;> simp [W]
theorem w_not : W (mNot mt env st) QB X = W (mt env st) (fun c st1 => QB (!c) st1) X := by
  unfold mNot; rw [w_bind]; rfl
theorem w_if : W (mIf mt a b env st) QD X = W (mt env st) (fun c st1 => (c = true → W (a env st1) QD X) ∧ (c = false → W (b env st1) QD X)) X := by
  unfold mIf; rw [w_bind]; congr; funext c st1; cases c <;> simp
theorem w_andV : W (mAndV a b env st) QD X = W (a env st) (fun d st1 => match d with | .bl c => (c = true → W (b env st1) QD X) ∧ (c = false → QD (.bl false) st1) | _ => False) X := by
  unfold mAndV; rw [w_bind]; congr; funext d st1; cases d <;> try rfl
  rename_i c; cases c <;> simp [W]
theorem w_orV : W (mOrV a b env st) QD X = W (a env st) (fun d st1 => match d with | .bl c => (c = true → QD (.bl true) st1) ∧ (c = false → W (b env st1) QD X) | _ => False) X := by
  unfold mOrV; rw [w_bind]; congr; funext d st1; cases d <;> try rfl
  rename_i c; cases c <;> simp [W]
theorem w_notV : W (mNotV a env st) QD X = W (a env st) (fun d st1 => match d with | .bl c => QD (.bl (!c)) st1 | _ => False) X := by
  unfold mNotV; rw [w_bind]; congr; funext d st1; cases d <;> rfl
theorem w_pn {QO : Option Int → Store → Prop} : W (mPn env st) QO X = QO none st := rfl
theorem w_ps {QO : Option Int → Store → Prop} : W (mPs a env st) QO X = W (a env st) (fun d st1 => match d with | .int i => QO (some i) st1 | _ => False) X := by
  unfold mPs; rw [w_bind]; congr; funext d st1; cases d <;> rfl
theorem w_sl {ml mh : MO_} : W (mSl a ml mh env st) QD X = W (a env st) (fun d st1 => W (ml env st1) (fun lo st2 => W (mh env st2) (fun hi st3 => W (dSl d lo hi st3) QD X) X) X) X := by
  unfold mSl; simp only [w_bind]
theorem w_methS {f : D → D → Store → Res D} : W (mMethS f a b env st) QD X = W (a env st) (fun d st1 => match d with | .str _ => W (b env st1) (fun x st2 => W (f d x st2) QD X) X | _ => False) X := by
  unfold mMethS; rw [w_bind]; congr; funext d st1; cases d <;> simp only [w_bind] <;> rfl
theorem w_methL {f : D → List D → Store → Res D} : W (mMethL f a ma env st) QD X = W (a env st) (fun d st1 => match vl st1 d with | some _ => W (ma env st1) (fun ds st2 => W (f d ds st2) QD X) X | none => False) X := by
  unfold mMethL; rw [w_bind]; congr; funext d st1
  cases vl st1 d with
  | none => rfl
  | some x => simp only [w_bind]
theorem w_any {QI : Src → Store → Prop} : W (mAny a env st) QI X = W (a env st) (fun d st1 => W (srcOf d st1) QI X) X := by
  unfold mAny; rw [w_bind]
theorem w_rng1 {QI : Src → Store → Prop} : W (mRng1 ma env st) QI X = W (ma env st) (fun d st1 => W (rng1 d st1) QI X) X := by
  unfold mRng1; rw [w_bind]
theorem w_lc {mi : MI} {g : MG} {vs : List Nat} : W (mLc mi g mt a vs env st) QD X = W (mi env st) (fun src st1 => W (lcSrc g mt a src (wipeD env vs) st1) (fun r st2 => QD (.lst r) st2) X) X := by
  unfold mLc; simp only [w_bind, w_ok]
theorem w_tup : W (mTup ma env st) QD X = W (ma env st) (fun ds st1 => ds.length ≤ sizeLine ∧ QD (.tup ds) st1) X := by
  unfold mTup; rw [w_call]; congr; funext ds st1; unfold okTup; by_cases h : ds.length ≤ sizeLine <;> simp [h, W]
theorem w_lst : W (mLst ma env st) QD X = W (ma env st) (fun ds st1 => ds.length ≤ sizeLine ∧ QD (.lst ds) st1) X := by
  unfold mLst; rw [w_call]; congr; funext ds st1; unfold okLst; by_cases h : ds.length ≤ sizeLine <;> simp [h, W]
theorem w_lstM : W (mLstM ma env st) QD X = W (ma env st) (fun ds st1 => (ds.length ≤ sizeLine ∧ D.lows st1.length ds = true) ∧ QD (.box st1.length) (st1 ++ [.lst ds])) X := by
  unfold mLstM; rw [w_call]; congr; funext ds st1; unfold okLstM; by_cases h : ds.length ≤ sizeLine ∧ D.lows st1.length ds = true <;> simp [h, W]
/-! statements -/
theorem ws_seq : WS (msSeq m m2 env st) ks = WS (m env st) { ks with N := fun e s => WS (m2 e s) ks } := by
  unfold msSeq
  cases m env st with
  | fl f s => cases f <;> rfl
  | exc c fs e s => rfl
  | stuck => rfl
theorem ws_set {i : Nat} : WS (msSet i a env st) ks = W (a env st) (fun d st1 => ks.N (env.set i (some d)) st1) (fun c fs s => ks.X c fs env s) := by
  unfold msSet; rw [ws_to]; rfl
theorem ws_ret : WS (msRet a env st) ks = W (a env st) ks.R (fun c fs s => ks.X c fs env s) := by
  unfold msRet; rw [ws_to]; rfl
theorem ws_drop : WS (msDrop a env st) ks = W (a env st) (fun _ st1 => ks.N env st1) (fun c fs s => ks.X c fs env s) := by
  unfold msDrop; rw [ws_to]; rfl
theorem ws_next : WS (msNext env st) ks = ks.N env st := rfl
theorem ws_if : WS (msIf mt m m2 env st) ks = W (mt env st) (fun c st1 => (c = true → WS (m env st1) ks) ∧ (c = false → WS (m2 env st1) ks)) (fun c fs s => ks.X c fs env s) := by
  unfold msIf; rw [ws_to]; congr; funext c st1; cases c <;> simp
theorem ws_asg {g : MG} : WS (msAsg a g env st) ks = W (a env st) (fun d st1 => match g d env st1 with | some env1 => ks.N env1 st1 | none => False) (fun c fs s => ks.X c fs env s) := by
  unfold msAsg; rw [ws_to]; congr; funext d st1; cases g d env st1 <;> rfl
theorem ws_raise {c : Nat} {fs : List Str} : WS (msRaise c fs ma env st) ks = W (ma env st) (fun ds st1 => (ds.length = fs.length ∧ ds.all shD = true) ∧ ks.X c (fs.zip ds).reverse env st1) (fun c fs s => ks.X c fs env s) := by
  unfold msRaise; rw [ws_to]; congr; funext ds st1
  by_cases h : ds.length = fs.length ∧ ds.all shD = true
  · rw [if_pos h]; simp only [h, true_and, ws_exc, and_self]
  · rw [if_neg h]; simp only [h, false_and]; rfl
theorem ws_for {mi : MI} {g : MG} : WS (msFor mi g m env st) ks = W (mi env st) (fun src st1 => WS (forSrc (stepF g m) src env st1) ks) (fun c fs s => ks.X c fs env s) := by
  unfold msFor; rw [ws_to]
theorem w_def {n : Nat} {ds : List D} : W (mDef n m ds st) QD X = WS (m (startD n ds) st) { N := fun _ s => QD .non (s.take st.length), R := fun d s => QD (fz st.length s d) (s.take st.length), X := fun c fs _ s => X c (fzF st.length s fs) (s.take st.length) } := by
  unfold mDef
  cases m (startD n ds) st with
  | fl f s => cases f <;> rfl
  | exc c fs e s => rfl
  | stuck => rfl
/-! statements, one by one; an if that may go on is cut by hand (ws_cut), or gone through by ws_seq -/
theorem ws_cut {a b : MS} {M : DEnv → Store → Prop} (h : WS (a env st) { ks with N := M }) (h2 : ∀ e s, M e s → WS (b e s) ks) : WS (msSeq a b env st) ks := by
  rw [ws_seq]
  cases e : a env st with
  | fl f s =>
    rw [e] at h
    cases f with
    | nx _ => exact h2 _ _ h
    | _ => exact h
  | exc c fs e' s => rw [e] at h; exact h
  | stuck => rw [e] at h; exact h
theorem ws_sset {j : Nat} {b : MS} : WS (msSeq (msSet j a) b env st) ks = W (a env st) (fun d s => WS (b (env.set j (some d)) s) ks) (fun c fs s => ks.X c fs env s) := by
  rw [ws_seq, ws_set]
theorem ws_sdrop {b : MS} : WS (msSeq (msDrop a) b env st) ks = W (a env st) (fun _ s => WS (b env s) ks) (fun c fs s => ks.X c fs env s) := by
  rw [ws_seq, ws_drop]
theorem ws_sasg {g : MG} {b : MS} : WS (msSeq (msAsg a g) b env st) ks = W (a env st) (fun d st1 => match g d env st1 with | some env1 => WS (b env1 st1) ks | none => False) (fun c fs s => ks.X c fs env s) := by
  rw [ws_seq, ws_asg]
theorem ws_sifr {b : MS} : WS (msSeq (msIf mt (msRet a) msNext) b env st) ks = W (mt env st) (fun c s => (c = true → W (a env s) ks.R (fun c fs s => ks.X c fs env s)) ∧ (c = false → WS (b env s) ks)) (fun c fs s => ks.X c fs env s) := by
  rw [ws_seq, ws_if]
  simp only [ws_ret, ws_next]
theorem ws_sifx {cx : Nat} {fs : List Str} {b : MS} : WS (msSeq (msIf mt (msRaise cx fs ma) msNext) b env st) ks = W (mt env st) (fun c s => (c = true → WS (msRaise cx fs ma env s) ks) ∧ (c = false → WS (b env s) ks)) (fun c fs s => ks.X c fs env s) := by
  rw [ws_seq, ws_if]
  congr; funext c s; congr 1
  refine propext ⟨fun h e => ?_, fun h e => ?_⟩
  · have h := h e; rw [ws_raise] at h ⊢; exact h
  · have h := h e; rw [ws_raise] at h ⊢; exact h
/-- a def by its text: what it hands back holds no box, what it raises neither -/
theorem w_defL {n : Nat} {ds : List D} (h : WS (m (startD n ds) st) { N := fun _ s => QD .non (s.take st.length), R := fun d s => d.low 0 = true ∧ QD d (s.take st.length), X := fun c fs _ s => D.lowF 0 fs = true ∧ X c fs (s.take st.length) }) : W (mDef n m ds st) QD X := by
  rw [w_def]
  cases e : m (startD n ds) st with
  | fl f s =>
    rw [e] at h
    cases f with
    | nx _ => exact h
    | rt d =>
      obtain ⟨h1, h2⟩ := h
      show QD (D.sub _ d) _
      rw [sub_id d h1]; exact h2
    | bk _ => exact h
    | ct _ => exact h
  | exc c fs e' s =>
    rw [e] at h
    obtain ⟨h1, h2⟩ := h
    show X c (D.subF _ fs) _
    rw [subF_id fs h1]; exact h2
  | stuck => rw [e] at h; exact h
/-! loops -/
theorem WS.mono {r : SRes} {k k' : KS} (h : WS r k) (hN : ∀ e s, k.N e s → k'.N e s) (hR : ∀ d s, k.R d s → k'.R d s) (hB : ∀ e s, k.B e s → k'.B e s) (hC : ∀ e s, k.C e s → k'.C e s) (hX : ∀ c fs e s, k.X c fs e s → k'.X c fs e s) : WS r k' := by
  cases r with
  | fl f s =>
    cases f with
    | nx _ => exact hN _ _ h
    | rt _ => exact hR _ _ h
    | bk _ => exact hB _ _ h
    | ct _ => exact hC _ _ h
  | exc c fs e s => exact hX _ _ _ _ h
  | stuck => exact h
theorem ws_forFix {b : D → MS} {P : List D → DEnv → Store → Prop} : ∀ {ds : List D} {env : DEnv} {st : Store}, P ds env st →
    (∀ d ds env st, P (d :: ds) env st → WS (b d env st) { ks with N := P ds, C := P ds, B := ks.N }) → (∀ env st, P [] env st → ks.N env st) → WS (forFix b ds env st) ks
  | [], env, st, p, _, h0 => h0 env st p
  | d :: ds, env, st, p, hs, h0 => by
    have h := hs d ds env st p
    have ih : ∀ e s, P ds e s → WS (forFix b ds e s) ks := fun e s q => ws_forFix (P := P) q hs h0
    show WS (match b d env st with
      | .fl (.nx env1) st1 => forFix b ds env1 st1
      | .fl (.ct env1) st1 => forFix b ds env1 st1
      | .fl (.bk env1) st1 => .fl (.nx env1) st1
      | r => r) ks
    cases e : b d env st with
    | fl f s =>
      rw [e] at h
      cases f with
      | nx _ => exact ih _ _ h
      | rt _ => exact h
      | bk _ => exact h
      | ct _ => exact ih _ _ h
    | exc c fs e' s => rw [e] at h; exact h
    | stuck => rw [e] at h; exact h
theorem ws_while {c : MT} {P : Nat → DEnv → Store → Prop} : ∀ {n f : Nat} {env : DEnv} {st : Store}, n < f → P n env st →
    (∀ n env st, P n env st → W (c env st) (fun k s => (k = true → ∃ n', n = n' + 1 ∧ WS (m env s) { ks with N := P n', C := P n', B := ks.N }) ∧ (k = false → ks.N env s)) (fun cn fs s => ks.X cn fs env s)) → WS (whileL c m f env st) ks
  | n, 0, env, st, hl, _, _ => by omega
  | n, f + 1, env, st, hl, p, hs => by
    have h := hs n env st p
    unfold whileL
    rw [ws_to]
    refine h.mono (fun k s hk => ?_) fun _ _ _ z => z
    cases k with
    | false => exact hk.2 rfl
    | true =>
      obtain ⟨n', e, h2⟩ := hk.1 rfl
      subst e
      rw [if_pos rfl]
      have ih : ∀ e s, P n' e s → WS (whileL c m f e s) ks := fun e s q => ws_while (P := P) (by omega) q hs
      cases e : m env s with
      | fl fl s =>
        rw [e] at h2
        cases fl with
        | nx _ => exact ih _ _ h2
        | rt _ => exact h2
        | bk _ => exact h2
        | ct _ => exact ih _ _ h2
      | exc c fs e' s => rw [e] at h2; exact h2
      | stuck => rw [e] at h2; exact h2
/-- a comprehension over given items: P tells what holds with these made and these left -/
theorem w_lcGo {g : MG} {t : MT} {m : ME} {P : List D → List D → Store → Prop} {QL : List D → Store → Prop} {env : DEnv} : ∀ {ds acc : List D} {st : Store}, P acc ds st →
    (∀ acc d ds st, P acc (d :: ds) st → match g d env st with
      | some env1 => W (t env1 st) (fun c st1 => (c = true → W (m env1 st1) (fun y st2 => P (acc ++ [y]) ds st2) X0) ∧ (c = false → P acc ds st1)) X0
      | none => False) → (∀ acc st, P acc [] st → QL acc st) → W (lcGo g t m ds env st) (fun r s => QL (acc ++ r) s) X
  | [], acc, st, p, _, h0 => by
    show QL (acc ++ []) st
    rw [List.append_nil]; exact h0 acc st p
  | d :: ds, acc, st, p, hs, h0 => by
    have h := hs acc d ds st p
    unfold lcGo
    cases hg : g d env st with
    | none => rw [hg] at h; exact h.elim
    | some env1 =>
      rw [hg] at h
      simp only [] at h ⊢
      obtain ⟨c, st1, e1, h1⟩ := W.get h
      rw [e1]
      simp only [Res.nox, Res.bind]
      cases c with
      | false =>
        rw [if_neg (by decide)]
        exact w_lcGo (P := P) (QL := QL) (h1.2 rfl) hs h0
      | true =>
        rw [if_pos rfl]
        obtain ⟨y, st2, e2, h2⟩ := W.get (h1.1 rfl)
        rw [e2]
        simp only []
        have ih := w_lcGo (P := P) (QL := QL) h2 hs h0
        cases el : lcGo g t m ds env st2 with
        | ok r s =>
          rw [el] at ih
          show QL (acc ++ (y :: r)) s
          have ih' : QL (acc ++ [y] ++ r) s := ih
          rw [List.append_assoc] at ih'
          exact ih'
        | exc c fs s => rw [el] at ih; exact ih
        | stuck => rw [el] at ih; exact ih
end
/-! lists that are written, tests that are known -/
section
variable {α : Type} {a b : α} {l : List α} {n i : Nat} {x : Option D} {env : DEnv}
theorem l_get0 : (a :: l)[0]? = some a := rfl
theorem l_get : (a :: l)[n + 1]? = l[n]? := rfl
theorem l_set0 : (a :: l).set 0 b = b :: l := rfl
theorem l_set : (a :: l).set (n + 1) b = a :: l.set n b := rfl
theorem l_start {ds : List D} : startD n ds = ds.map some ++ List.replicate (n - ds.length) none := rfl
theorem l_map0 {β : Type} {f : α → β} : List.map f [] = [] := rfl
theorem l_map {β : Type} {f : α → β} : List.map f (a :: l) = f a :: List.map f l := rfl
theorem l_app0 : [] ++ l = l := rfl
theorem l_app {k : List α} : (a :: l) ++ k = a :: (l ++ k) := rfl
theorem l_rep0 : List.replicate 0 a = [] := rfl
theorem l_rep : List.replicate (n + 1) a = a :: List.replicate n a := rfl
theorem l_len0 : ([] : List α).length = 0 := rfl
theorem l_len : (a :: l).length = l.length + 1 := rfl
theorem l_wipe0 : wipeD env [] = env := rfl
theorem l_wipe {vs : List Nat} : wipeD env (n :: vs) = (wipeD env vs).set n none := rfl
theorem b_tt : (true = true) = True := by simp
theorem b_ff : (false = false) = True := by simp
theorem b_tf : (true = false) = False := by simp
theorem b_ft : (false = true) = False := by simp
theorem b_nt : (!true) = false := rfl
theorem b_nf : (!false) = true := rfl
theorem p_timp {p : Prop} : (True → p) = p := by simp
theorem p_fimp {p : Prop} : (False → p) = True := by simp
theorem p_tand {p : Prop} : (True ∧ p) = p := by simp
theorem p_andt {p : Prop} : (p ∧ True) = p := by simp
end
/-! leaves -/
section
variable {QD : D → Store → Prop} {X : XQ} {st : Store} {i j : Int}
theorem v_addI : W (dAdd (.int i) (.int j) st) QD X = QD (.int (i + j)) st := rfl
theorem v_subI : W (dSub (.int i) (.int j) st) QD X = QD (.int (i - j)) st := rfl
theorem v_eqI : W (dEq (.int i) (.int j) st) QD X = QD (.bl (i == j)) st := rfl
theorem v_neI : W (dNe (.int i) (.int j) st) QD X = QD (.bl (!(i == j))) st := rfl
theorem v_ltI : W (dLt (.int i) (.int j) st) QD X = QD (.bl (decide (i < j))) st := rfl
theorem v_gtI : W (dGt (.int i) (.int j) st) QD X = QD (.bl (decide (j < i))) st := rfl
theorem v_leI : W (dLe (.int i) (.int j) st) QD X = QD (.bl (decide (i ≤ j))) st := rfl
theorem v_geI : W (dGe (.int i) (.int j) st) QD X = QD (.bl (decide (j ≤ i))) st := rfl
theorem v_isN {m : ME} {env : DEnv} : W (mIsN m env st) QD X = W (m env st) (fun d s => QD (.bl d.isNon) s) X := by
  unfold mIsN; rw [w_un]; rfl
theorem v_notN {m : ME} {env : DEnv} : W (mNotN m env st) QD X = W (m env st) (fun d s => QD (.bl (!d.isNon)) s) X := by
  unfold mNotN; rw [w_un]; rfl
theorem v_isi1 {n : Nat} {J : Nat → Nat → Bool} {a b : ME} {env : DEnv} : W (mIsi1 n J a b env st) QD X = W (a env st) (fun d s => W (b env s) (fun e s2 => W (isi1 n J d e s2) QD X) X) X := w_op
theorem v_gname {k : Nat} {d : D} {env : DEnv} : gvName k d env st = some (env.set k (some d)) := rfl
end
/-- all of these at once -/
theorem bp1 : type_of% (And.intro @w_ok (And.intro @w_exc (And.intro @ws_fl_nx (And.intro @ws_fl_rt (And.intro @ws_exc (And.intro @w_var (And.intro @w_c (And.intro @w_op (And.intro @w_un (And.intro @w_call (And.intro @w_nil (And.intro @w_cons (And.intro @w_test (And.intro @w_and (And.intro @w_or (And.intro @w_not (And.intro @w_if (And.intro @w_andV (And.intro @w_orV (And.intro @w_notV (And.intro @w_pn (And.intro @w_ps (And.intro @w_sl (And.intro @w_methS (And.intro @w_methL (And.intro @w_any (And.intro @w_rng1 (And.intro @w_lc (And.intro @w_tup (And.intro @w_lst (And.intro @w_lstM (And.intro @ws_set (And.intro @ws_ret (And.intro @ws_drop (And.intro @ws_next (And.intro @ws_if (And.intro @ws_asg (And.intro @ws_raise (And.intro @ws_for (And.intro @ws_sset (And.intro @ws_sdrop (And.intro @ws_sasg (And.intro @ws_sifr (And.intro @ws_sifx (And.intro @l_get0 (And.intro @l_get (And.intro @l_set0 (And.intro @l_set (And.intro @l_start (And.intro @l_map0 (And.intro @l_map (And.intro @l_app0 (And.intro @l_app (And.intro @l_rep0 (And.intro @l_rep (And.intro @l_len0 (And.intro @l_len (And.intro @l_wipe0 (And.intro @l_wipe (And.intro @b_tt (And.intro @b_ff (And.intro @b_tf (And.intro @b_ft (And.intro @b_nt (And.intro @b_nf (And.intro @p_timp (And.intro @p_fimp (And.intro @p_tand (And.intro @p_andt (And.intro @v_addI (And.intro @v_subI (And.intro @v_eqI (And.intro @v_neI (And.intro @v_ltI (And.intro @v_gtI (And.intro @v_leI (And.intro @v_geI (And.intro @v_isN (And.intro @v_notN (And.intro @v_isi1 (@v_gname))))))))))))))))))))))))))))))))))))))))))))))))))))))))))))))))))))))))))))))))) := And.intro @w_ok (And.intro @w_exc (And.intro @ws_fl_nx (And.intro @ws_fl_rt (And.intro @ws_exc (And.intro @w_var (And.intro @w_c (And.intro @w_op (And.intro @w_un (And.intro @w_call (And.intro @w_nil (And.intro @w_cons (And.intro @w_test (And.intro @w_and (And.intro @w_or (And.intro @w_not (And.intro @w_if (And.intro @w_andV (And.intro @w_orV (And.intro @w_notV (And.intro @w_pn (And.intro @w_ps (And.intro @w_sl (And.intro @w_methS (And.intro @w_methL (And.intro @w_any (And.intro @w_rng1 (And.intro @w_lc (And.intro @w_tup (And.intro @w_lst (And.intro @w_lstM (And.intro @ws_set (And.intro @ws_ret (And.intro @ws_drop (And.intro @ws_next (And.intro @ws_if (And.intro @ws_asg (And.intro @ws_raise (And.intro @ws_for (And.intro @ws_sset (And.intro @ws_sdrop (And.intro @ws_sasg (And.intro @ws_sifr (And.intro @ws_sifx (And.intro @l_get0 (And.intro @l_get (And.intro @l_set0 (And.intro @l_set (And.intro @l_start (And.intro @l_map0 (And.intro @l_map (And.intro @l_app0 (And.intro @l_app (And.intro @l_rep0 (And.intro @l_rep (And.intro @l_len0 (And.intro @l_len (And.intro @l_wipe0 (And.intro @l_wipe (And.intro @b_tt (And.intro @b_ff (And.intro @b_tf (And.intro @b_ft (And.intro @b_nt (And.intro @b_nf (And.intro @p_timp (And.intro @p_fimp (And.intro @p_tand (And.intro @p_andt (And.intro @v_addI (And.intro @v_subI (And.intro @v_eqI (And.intro @v_neI (And.intro @v_ltI (And.intro @v_gtI (And.intro @v_leI (And.intro @v_geI (And.intro @v_isN (And.intro @v_notN (And.intro @v_isi1 (@v_gname))))))))))))))))))))))))))))))))))))))))))))))))))))))))))))))))))))))))))))))))
end Draw
end
section
set_option Elab.async false
set_option linter.all false
set_option maxRecDepth 100000
set_option maxHeartbeats 1000000
namespace Draw
open PySem L2 DL

/-! ### leaves, draws, comprehensions, backwards -/
section
variable {QD : D → Store → Prop} {QI : Src → Store → Prop} {QL : List D → Store → Prop} {X : XQ} {st : Store} {i : Nat} {n : Int} {ds : List D} {d : D} {env : DEnv}
theorem v_rng1 {k : Nat} (hk : k ≤ 1000000) : W (rng1 [.int k] st) QI X = QI (.fix (rangeD k)) st := by
  unfold rng1
  simp only []
  rw [if_pos ⟨by omega, by omega⟩, Int.toNat_natCast]; rfl
theorem v_rng1i (h0 : 0 ≤ n) (h1 : n ≤ 1000000) : W (rng1 [.int n] st) QI X = QI (.fix (rangeD n.toNat)) st := by
  obtain ⟨k, rfl⟩ := Int.eq_ofNat_of_zero_le h0
  exact v_rng1 (by omega)
theorem v_src (h : rowOf d = some ds) : W (srcOf d st) QI X = QI (.fix ds) st := by
  cases d <;> first | (cases h; rfl) | cases h
theorem v_srcL : W (srcOf (.lst ds) st) QI X = QI (.fix ds) st := rfl
theorem v_srcT : W (srcOf (.tup ds) st) QI X = QI (.fix ds) st := rfl
theorem v_lcS {g : MG} {t : MT} {m : ME} (h : ds.length ≤ lim) : W (lcSrc g t m (.fix ds) env st) QL X = W (lcGo g t m ds env st) QL X := by
  unfold lcSrc
  simp only []
  rw [if_pos h]
theorem v_forS {b : D → MS} {ks : KS} : WS (forSrc b (.fix ds) env st) ks = WS (forFix b ds env st) ks := rfl
theorem v_yes {QB : Bool → Store → Prop} : W (mYes env st) QB X = QB true st := rfl
/-- a comprehension that draws: R of each thing made -/
theorem lc_w {g : MG} {m : ME} {R : D → Prop} {I : Store → Prop} (hl : ds.length ≤ lim) (h0 : I st) (hs : ∀ d ∈ ds, ∀ st, I st → ∃ env1, g d env st = some env1 ∧ W (m env1 st) (fun y st' => I st' ∧ R y) X0)
    (q : ∀ ys st', ys.length = ds.length → (∀ y ∈ ys, R y) → I st' → QL ys st') : W (lcSrc g mYes m (.fix ds) env st) QL X := by
  rw [v_lcS hl]
  have h := w_lcGo (X := X) (g := g) (t := mYes) (m := m) (env := env) (ds := ds) (acc := []) (st := st) (P := fun acc left s => (acc.length + left.length = ds.length ∧ (∀ d ∈ left, d ∈ ds)) ∧ (∀ y ∈ acc, R y) ∧ I s) (QL := QL) ⟨⟨by simp, fun d h => h⟩, by simp, h0⟩ (fun acc d left s p => ?_) fun acc s p => ?_
  · simpa using h
  · obtain ⟨⟨p1, p1'⟩, p2, p3⟩ := p
    obtain ⟨env1, e1, e2⟩ := hs d (p1' d List.mem_cons_self) s p3
    rw [e1]
    simp only [bp1, v_srcL, v_srcT, v_forS, v_yes, ws_seq]
    refine e2.imp fun y s' z => ⟨⟨?_, fun d h => p1' d (List.mem_cons_of_mem _ h)⟩, fun x hx => ?_, z.1⟩
    · rw [List.length_append, List.length_singleton]; rw [List.length_cons] at p1; omega
    · rcases List.mem_append.mp hx with hx | hx
      · exact p2 x hx
      · rw [List.mem_singleton.mp hx]; exact z.2
  · obtain ⟨⟨p1, _⟩, p2, p3⟩ := p
    exact q acc s (by simpa using p1) p2 p3
/-- a comprehension that makes of each thing another one -/
theorem lc_fn {g : MG} {m : ME} {f : D → D} (hl : ds.length ≤ lim) (hs : ∀ d ∈ ds, ∃ env1, g d env st = some env1 ∧ W (m env1 st) (fun y st' => y = f d ∧ st' = st) X0) (q : QL (ds.map f) st) : W (lcSrc g mYes m (.fix ds) env st) QL X := by
  rw [v_lcS hl, lc_map (f := f) fun d hd => ?_]
  · exact q
  · obtain ⟨env1, e1, e2⟩ := hs d hd
    refine ⟨env1, e1, ?_⟩
    obtain ⟨y, s, e3, rfl, rfl⟩ := W.get e2
    exact e3
theorem v_tuple (h : rowOf d = some ds) : W (bTuple [d] st) QD X = QD (.tup ds) st := by
  cases d <;> first | (cases h; rfl) | cases h
theorem v_tupleL : W (bTuple [.lst ds] st) QD X = QD (.tup ds) st := rfl
theorem v_tupleT : W (bTuple [.tup ds] st) QD X = QD (.tup ds) st := rfl
theorem v_len (h : rowOf d = some ds) : W (bLen [d] st) QD X = QD (.int ds.length) st := by
  rw [len_row h]; rfl
theorem v_lenL : W (bLen [.lst ds] st) QD X = QD (.int ds.length) st := v_len rfl
theorem v_lenT : W (bLen [.tup ds] st) QD X = QD (.int ds.length) st := v_len rfl
theorem v_ix {k : Int} {x : D} (h : rowOf d = some ds) (hx : atI ds k = some x) : W (dIx d (.int k) st) QD X = QD x st := by
  rw [ix_row h hx]; rfl
theorem v_ixN {k : Nat} {x : D} (h : rowOf d = some ds) (hx : ds[k]? = some x) : W (dIx d (.int k) st) QD X = QD x st := by
  refine v_ix h ?_
  have hl : k < ds.length := (List.getElem?_eq_some_iff.mp hx).1
  have e : ixN ds.length k = some k := by
    unfold ixN
    rw [if_pos (by omega), if_pos (by omega)]; rfl
  unfold atI; rw [e]; exact hx
theorem pick_w (s : SrcAt st i) (h0 : 0 < n) (h1 : n < 1000000) (q : ∀ k st', 0 ≤ k → k < n → Adv i st st' → QD (.int k) st') : W (m_law_pick [.box i, .int n] st) QD X := by
  obtain ⟨st', k, e, a, b, c⟩ := pick_ok s h0 h1
  rw [e]; exact q k st' a b c
theorem pickN_w {k : Nat} (s : SrcAt st i) (h0 : 0 < k) (h1 : k < 1000000) (q : ∀ (j : Nat) st', j < k → Adv i st st' → QD (.int j) st') : W (m_law_pick [.box i, .int k] st) QD X := by
  refine pick_w s (by omega) (by omega) fun z st' a b c => ?_
  obtain ⟨j, rfl⟩ := Int.eq_ofNat_of_zero_le a
  exact q j st' (by omega) c
theorem next_w (s : SrcAt st i) (q : ∀ st', Adv i st st' → QD .non st') : W (m_law_next [.box i] st) QD X := by
  obtain ⟨st', e, a⟩ := next_ok s
  rw [e]; exact q st' a
theorem one_in_w (s : SrcAt st i) (h0 : 0 < n) (h1 : n < 1000000) (q : ∀ b st', Adv i st st' → QD (.bl b) st') : W (m_law_one_in [.box i, .int n] st) QD X := by
  refine w_defL ?_
  unfold b_law_one_in
  simp only [bp1, v_srcL, v_srcT, v_forS, v_yes, v_tupleL, v_tupleT, v_lenL, v_lenT, ws_seq]
  refine pick_w s h0 h1 fun k st' _ _ ad => ?_
  simp only [bp1, v_srcL, v_srcT, v_forS, v_yes, v_tupleL, v_tupleT, v_lenL, v_lenT, ws_seq]
  exact ⟨rfl, by rw [ad.take]; exact q _ _ ad⟩
theorem one_of_w {r : D} (s : SrcAt st i) (hr : rowOf r = some ds) (h0 : ds ≠ []) (h1 : ds.length < 1000000) (hl : D.lows 0 ds = true) (q : ∀ x st', x ∈ ds → Adv i st st' → QD x st') : W (m_law_one_of [.box i, r] st) QD X := by
  obtain ⟨st', x, e, hx, ad⟩ := one_of_ok s hr h0 h1 hl
  rw [e]; exact q x st' hx ad
theorem words_w {m L : Nat} {spent : List Str} (s : SrcAt st i) (hn : m ≤ 100) (hL1 : 1 ≤ L) (hL : L ≤ 900) (hs : spent.length ≤ 500)
    (q : ∀ (ws : List Str) st', ws.length = m → ws.Nodup → (∀ w ∈ ws, WordOk L w ∧ w ∉ spent) → Adv i st st' → QD (.lst (ws.map .str)) st') : W (m_law_words [.box i, .int m, .int L, .lst (spent.map .str)] st) QD X := by
  obtain ⟨st', ws, e, h1, h2, h3, h4⟩ := words_ok s hn hL1 hL hs
  rw [e]; exact q ws st' h1 h2 h3 h4
end
/-! methods, tries, loops -/
section
variable {QD : D → Store → Prop} {X : XQ} {st : Store} {env : DEnv} {ks : KS} {mo mv mf : ME} {ma : MA}
theorem w_meth {c : Nat} {z : Str} {m : List D → Store → Res D} : W (mMeth c z m mo ma env st) QD X = W (mo env st) (fun d st1 => match fv st1 d with
    | some (c2, fs) => (c2 = c ∧ fs.lookup z = none) ∧ W (ma env st1) (fun ds st2 => W (m (d :: ds) st2) QD X) X
    | none => False) X := by
  unfold mMeth; rw [w_bind]; congr; funext d st1
  cases fv st1 d with
  | none => rfl
  | some x =>
    obtain ⟨c2, fs⟩ := x
    simp only []
    by_cases h : c2 = c ∧ fs.lookup z = none
    · rw [if_pos h, w_bind]; simp only [h, true_and, and_self]
    · rw [if_neg h]; simp only [h, false_and]; rfl
theorem w_methD {c : Nat} {z : Str} {m : List D → Store → Res D} {dds : List D} : W (mMethD c z m dds mo ma env st) QD X = W (mo env st) (fun d st1 => match fv st1 d with
    | some (c2, fs) => (c2 = c ∧ fs.lookup z = none) ∧ W (ma env st1) (fun ds st2 => W (m (d :: ds ++ dds) st2) QD X) X
    | none => False) X := by
  unfold mMethD; rw [w_bind]; congr; funext d st1
  cases fv st1 d with
  | none => rfl
  | some x =>
    obtain ⟨c2, fs⟩ := x
    simp only []
    by_cases h : c2 = c ∧ fs.lookup z = none
    · rw [if_pos h, w_bind]; simp only [h, true_and, and_self]
    · rw [if_neg h]; simp only [h, false_and]; rfl
theorem w_callV {c : Nat} {m : List D → Store → Res D} : W (mCallV c m mf ma env st) QD X = W (mf env st) (fun d st1 => match d with
    | .cls c2 => c2 = c ∧ W (ma env st1) (fun ds st2 => W (m ds st2) QD X) X
    | _ => False) X := by
  unfold mCallV; rw [w_bind]; congr; funext d st1
  cases d <;> try rfl
  rename_i c2
  simp only []
  by_cases h : c2 = c
  · rw [if_pos h, w_bind]; simp only [h, true_and]
  · rw [if_neg h]; simp only [h, false_and]; rfl
theorem w_tru {QB : Bool → Store → Prop} {a : ME} : W (mTru a env st) QB X = W (a env st) (fun d st1 => match truD st1 d with
    | some b => QB b st1
    | none => False) X := by
  unfold mTru; rw [w_bind]; congr; funext d st1; cases truD st1 d <;> rfl
theorem w_chain {f g : D → D → Store → Res D} {a b c : ME} : W (mChain f g a b c env st) QD X = W (a env st) (fun x st1 => W (b env st1) (fun y st2 => W (f x y st2) (fun r st3 => match r with
    | .bl true => W (c env st3) (fun z st4 => W (g y z st4) QD X) X
    | .bl false => QD (.bl false) st3
    | _ => False) X) X) X := by
  unfold mChain
  simp only [w_bind]
  congr; funext x st1; congr; funext y st2; congr; funext r st3
  cases r <;> try rfl
  rename_i v
  cases v <;> simp only [w_bind] <;> rfl
theorem ws_offX {i : Nat} {r : SRes} : WS (offX i r) ks = WS r { N := fun e s => ks.N (e.set i none) s, R := ks.R, B := fun e s => ks.B (e.set i none) s, C := fun e s => ks.C (e.set i none) s } := by
  cases r with
  | fl f s => cases f <;> rfl
  | exc c fs e s => rfl
  | stuck => rfl
theorem ws_try {n N cx i : Nat} {S : Nat → Nat → Bool} {mb : MS} {ms : MX MS} : WS (msTry n N S cx i mb ms env st) ks = WS (mb env st) { ks with X := fun cn fs e s => (n ≤ cn ∧ cn < N ∧ i < e.length) ∧ (S cn cx = true → WS (ms cn fs (e.set i none) s) { N := fun e s => ks.N (e.set i none) s, R := ks.R, B := fun e s => ks.B (e.set i none) s, C := fun e s => ks.C (e.set i none) s }) ∧ (S cn cx = false → ks.X cn fs e s) } := by
  unfold msTry
  cases mb env st with
  | fl f s => cases f <;> rfl
  | stuck => rfl
  | exc c fs e s =>
    simp only []
    by_cases h : n ≤ c ∧ c < N ∧ i < e.length
    · rw [if_pos h]
      cases hS : S c cx with
      | true => rw [if_pos rfl, ws_offX]; simp only [ws_exc, h, hS, and_self, true_and, forall_const, reduceCtorEq, false_implies, and_true]
      | false => rw [if_neg (by decide)]; simp only [ws_exc, h, hS, and_self, true_and, forall_const, reduceCtorEq, false_implies]
    · rw [if_neg h]; simp only [ws_exc, h, false_and]; rfl
theorem ws_whileM {c : MT} {m : MS} {P : Nat → DEnv → Store → Prop} {n : Nat} (hn : n < 100000) (p : P n env st)
    (hs : ∀ n env st, P n env st → W (c env st) (fun k s => (k = true → ∃ n', n = n' + 1 ∧ WS (m env s) { ks with N := P n', C := P n', B := ks.N }) ∧ (k = false → ks.N env s)) (fun cn fs s => ks.X cn fs env s)) : WS (msWhile c m env st) ks := ws_while (P := P) hn p hs
theorem ws_setIx {mi : ME} : WS (msSetIx mv mo mi env st) ks = W (mv env st) (fun v st1 => W (mo env st1) (fun d st2 => W (mi env st2) (fun e st3 => match dSetIx d e v st3 with
    | some st4 => ks.N env st4
    | none => False) (fun c fs s => ks.X c fs env s)) (fun c fs s => ks.X c fs env s)) (fun c fs s => ks.X c fs env s) := by
  unfold msSetIx
  simp only [ws_to]
  congr; funext v st1; congr; funext d st2; congr; funext e st3
  cases dSetIx d e v st3 <;> rfl
theorem ws_setFld {n : Nat} {Na : Nat → Str → Bool} {f : Str} : WS (msSetFld n Na f mv mo env st) ks = W (mv env st) (fun v st1 => W (mo env st1) (fun d st2 => match dSetFld n Na f d v st2 with
    | some st3 => ks.N env st3
    | none => False) (fun c fs s => ks.X c fs env s)) (fun c fs s => ks.X c fs env s) := by
  unfold msSetFld
  simp only [ws_to]
  congr; funext v st1; congr; funext d st2
  cases dSetFld n Na f d v st2 <;> rfl
end
/-- two things that are the same -/
theorem same_w {n : Nat} {J : Nat → Nat → Bool} {QD : D → Store → Prop} {X : XQ} {st : Store} {k j : Nat} {d e : D} (h : d = e) (hp : Pl k d) (hk : k + 1 ≤ j) (q : QD (.bl true) st) : W (mRec 3 (bSame n J) j [d, e] st) QD X := by
  subst h
  obtain ⟨c, rfl⟩ : ∃ c, j = k + c + 1 := ⟨j - k - 1, by omega⟩
  have up : ∀ c k d, Pl k d → Pl (k + c) d := by
    intro c k d h
    induction h with
    | non => exact .non
    | bl b => exact .bl b
    | int i => exact .int i
    | str y => exact .str y
    | tup h l ih => rw [Nat.add_right_comm]; exact .tup ih l
  rw [same_refl (k + c) d (up c k d hp)]; exact q
/-- all of these at once -/
theorem bp2 : type_of% (And.intro @v_srcL (And.intro @v_srcT (And.intro @v_forS (And.intro @v_yes (And.intro @v_tupleL (And.intro @v_tupleT (And.intro @v_lenL (And.intro @v_lenT (And.intro @w_meth (And.intro @w_methD (And.intro @w_callV (And.intro @w_tru (And.intro @w_chain (And.intro @ws_setIx (@ws_setFld))))))))))))))) := And.intro @v_srcL (And.intro @v_srcT (And.intro @v_forS (And.intro @v_yes (And.intro @v_tupleL (And.intro @v_tupleT (And.intro @v_lenL (And.intro @v_lenT (And.intro @w_meth (And.intro @w_methD (And.intro @w_callV (And.intro @w_tru (And.intro @w_chain (And.intro @ws_setIx (@ws_setFld))))))))))))))
end Draw
end
section
set_option Elab.async false
set_option linter.all false
set_option maxRecDepth 100000
set_option maxHeartbeats 1000000
namespace Draw
open PySem L2 DL

/-! ### the lines of a work, where something is raised -/
section
variable {st0 : Store} {RS : Nat → List (Str × D)} {mk hd chap past : List D → Store → Res D} {x : D} {y z : Int}
theorem e_callX {env : DEnv} {st st1 st2 : Store} {m : List D → Store → Res D} {ma : MA} {ds : List D} {e : Nat} {gs : List (Str × D)} (ha : ma env st = .ok ds st1) (hm : m ds st1 = .exc e gs st2) : mCall m ma env st = .exc e gs st2 := e_call ha hm
theorem s_dropX {env : DEnv} {st st1 : Store} {m : ME} {e : Nat} {gs : List (Str × D)} (h : m env st = .exc e gs st1) : msDrop m env st = .exc e gs env st1 := by
  unfold msDrop; rw [h]; rfl
/-- the first line -/
theorem work_exc0 {st1 : Store} (hmk : mk [x] st0 = .ok (.box st0.length) (st0 ++ [.ins 0 (RS 0)])) (h0c : chap [.box st0.length] (st0 ++ [.ins 0 (RS 0)]) = .exc 3 [("word", .int y), ("line", .int z)] st1) (ht : st1.take st0.length = st0) :
    mDef 3 (bWork mk chap hd past) [x] st0 = .exc 3 [("word", .int y), ("line", .int z)] st0 := by
  have s1 : msSet 1 (mCall mk (mCons (mVar 0) mNil)) (startD 3 [x]) st0 = .fl (.nx [some x, some (.box st0.length), none]) (st0 ++ [.ins 0 (RS 0)]) := s_set (e_call (e_cons (e_var rfl) e_nil) hmk)
  have c1 : mCall chap (mCons (mVar 1) mNil) [some x, some (.box st0.length), none] (st0 ++ [.ins 0 (RS 0)]) = .exc 3 [("word", .int y), ("line", .int z)] st1 := e_callX (e_cons (e_var rfl) e_nil) h0c
  have gen : ∀ (m : ME) (env : DEnv) (q : Store), m env q = .exc 3 [("word", .int y), ("line", .int z)] st1 → msSet 2 (mLstM (mCons m mNil)) env q = .exc 3 [("word", .int y), ("line", .int z)] env st1 := fun m env q h => by
    unfold msSet mLstM mCall mCons
    rw [h]; rfl
  have g := d_excT (n := 3) (ds := [x]) (st := st0) (m := bWork mk chap hd past) (s_seq s1 (s_seqX (gen _ _ _ c1)))
  rw [g, ht]
end
end Draw
end
section
set_option Elab.async false
set_option linter.all false
set_option maxRecDepth 100000
set_option maxHeartbeats 1000000
namespace Draw
open PySem L2 DL

/-! ### the lines of a work, where a later line raises -/
section
variable {st0 : Store} {RS : Nat → List (Str × D)} {mk hd chap past : List D → Store → Res D} {x : D} {y z : Int}
/-- up to the m-th chapter -/
theorem work_reach {m : Nat} {c0 : D} {cs : List D} (hmk : mk [x] st0 = .ok (.box st0.length) (st0 ++ [.ins 0 (RS 0)])) (h0c : chap [.box st0.length] (st0 ++ [.ins 0 (RS 0)]) = .ok c0 (st0 ++ [.ins 0 (RS 1)])) (e0 : cs[0]? = some c0)
    (hz : ∀ k, (RS k).lookup ("head" : Str) = none) (hm1 : 1 ≤ m) (hm : m ≤ 6) (hcs : cs.length = m) (hlow : ∀ c ∈ cs, c.low 0 = true)
    (hh : ∀ k f, 1 ≤ k → k < m → ∃ y, hd [.box st0.length] (stW st0 RS k f) = .ok (.str y) (stW st0 RS k f))
    (hc : ∀ k f c, 1 ≤ k → cs[k]? = some c → chap [.box st0.length] (stW st0 RS k f) = .ok c (stW st0 RS (k + 1) f)) :
    ∃ fuel, ∀ m3 : MS, msSeq (msSet 1 (mCall mk (mCons (mVar 0) mNil))) (msSeq (msSet 2 (mLstM (mCons (mCall chap (mCons (mVar 1) mNil)) mNil))) (msSeq (msWhile (cWork hd) (lWork chap)) m3)) (startD 3 [x]) st0
      = msSeq (whileL (cWork hd) (lWork chap) (fuel + 1)) m3 (envW x st0) (stW st0 RS m cs) := by
  have lc0 : c0.low 0 = true := hlow c0 (List.mem_of_getElem? e0)
  have s1 : msSet 1 (mCall mk (mCons (mVar 0) mNil)) (startD 3 [x]) st0 = .fl (.nx [some x, some (.box st0.length), none]) (st0 ++ [.ins 0 (RS 0)]) := s_set (e_call (e_cons (e_var rfl) e_nil) hmk)
  have s2 : msSet 2 (mLstM (mCons (mCall chap (mCons (mVar 1) mNil)) mNil)) [some x, some (.box st0.length), none] (st0 ++ [.ins 0 (RS 0)]) = .fl (.nx (envW x st0)) (stW st0 RS 1 [c0]) := by
    refine s_set (d := .box (st0.length + 1)) (e_lstM (e_cons (e_call (e_cons (e_var rfl) e_nil) h0c) e_nil) ?_)
    unfold okLstM
    have l : (st0 ++ [MO.ins 0 (RS 1)]).length = st0.length + 1 := by simp
    have lw : D.lows (st0 ++ [MO.ins 0 (RS 1)]).length [c0] = true := by
      show (c0.low _ && true) = true
      rw [low_up c0 lc0]; rfl
    rw [if_pos ⟨by rw [sizeLine_eq]; show 1 ≤ _; decide, lw⟩, l]
    unfold stW
    rw [List.append_assoc]; rfl
  have t1 : cs.take 1 = [c0] := by
    cases cs with
    | nil => cases e0
    | cons c r => cases e0; rfl
  have run := work_run (x := x) (hd := hd) (chap := chap) hz hm hcs hh (fun k f c h1 h2 => ⟨hc k f c h1 h2, hlow c (List.mem_of_getElem? h2)⟩) (m - 1) 1 (100000 - (m - 1) - 1 + 1) (Nat.le_refl 1) (by omega)
  rw [t1, show 100000 - (m - 1) - 1 + 1 + (m - 1) = 100000 by omega] at run
  refine ⟨100000 - (m - 1) - 1, fun m3 => s_seq s1 (s_seq s2 ?_)⟩
  unfold msSeq msWhile
  rw [run]
theorem stW_take {m : Nat} {f : List D} : (stW st0 RS m f).take st0.length = st0 := by
  unfold stW; simp
theorem w_raise {c : MT} {b : MS} {f : Nat} {env : DEnv} {st st1 st2 : Store} {e : Nat} {gs : List (Str × D)} {env1 : DEnv} (h : c env st = .ok true st1) (hb : b env st1 = .exc e gs env1 st2) : whileL c b (f + 1) env st = .exc e gs env1 st2 := by
  conv => lhs; unfold whileL
  rw [h]
  simp only [Res.to, if_true]
  rw [hb]
theorem w_end {c : MT} {b : MS} {f : Nat} {env : DEnv} {st st1 : Store} (h : c env st = .ok false st1) : whileL c b (f + 1) env st = .fl (.nx env) st1 := by
  conv => lhs; unfold whileL
  rw [h]
  rfl
theorem lw_raise {st1 : Store} {m : Nat} {f : List D} (hx : chap [.box st0.length] (stW st0 RS m f) = .exc 3 [("word", .int y), ("line", .int z)] st1) : lWork chap (envW x st0) (stW st0 RS m f) = .exc 3 [("word", .int y), ("line", .int z)] (envW x st0) st1 := by
  have c1 : mCall chap (mCons (mVar 1) mNil) (envW x st0) (stW st0 RS m f) = .exc 3 [("word", .int y), ("line", .int z)] st1 := e_callX (e_cons (e_var rfl) e_nil) hx
  have c2 : ∀ a : ME, a (envW x st0) (stW st0 RS m f) = .exc 3 [("word", .int y), ("line", .int z)] st1 → mCons a mNil (envW x st0) (stW st0 RS m f) = .exc 3 [("word", .int y), ("line", .int z)] st1 := fun a h => by
    unfold mCons; rw [h]; rfl
  refine s_dropX ?_
  unfold mMethL
  rw [show mVar 2 (envW x st0) (stW st0 RS m f) = .ok (.box (st0.length + 1)) (stW st0 RS m f) from e_var rfl]
  have hv : vl (stW st0 RS m f) (.box (st0.length + 1)) = some f := by unfold vl; simp only [stW_f]
  simp only [Res.bind, hv]
  rw [c2 _ c1]
end
end Draw
end
section
set_option Elab.async false
set_option linter.all false
set_option maxRecDepth 100000
set_option maxHeartbeats 1000000
namespace Draw
open PySem L2 DL

section
variable {st0 : Store} {RS : Nat → List (Str × D)} {mk hd chap past : List D → Store → Res D} {x : D} {y z : Int}
/-- the line behind m chapters raises -/
theorem work_excK {m : Nat} {c0 : D} {cs : List D} {st1 : Store} {t : Str} (hmk : mk [x] st0 = .ok (.box st0.length) (st0 ++ [.ins 0 (RS 0)])) (h0c : chap [.box st0.length] (st0 ++ [.ins 0 (RS 0)]) = .ok c0 (st0 ++ [.ins 0 (RS 1)])) (e0 : cs[0]? = some c0)
    (hz : ∀ k, (RS k).lookup ("head" : Str) = none) (hm1 : 1 ≤ m) (hm : m < 6) (hcs : cs.length = m) (hlow : ∀ c ∈ cs, c.low 0 = true)
    (hh : ∀ k f, 1 ≤ k → k < m → ∃ y, hd [.box st0.length] (stW st0 RS k f) = .ok (.str y) (stW st0 RS k f))
    (hc : ∀ k f c, 1 ≤ k → cs[k]? = some c → chap [.box st0.length] (stW st0 RS k f) = .ok c (stW st0 RS (k + 1) f))
    (he : hd [.box st0.length] (stW st0 RS m cs) = .ok (.str t) (stW st0 RS m cs))
    (hx : chap [.box st0.length] (stW st0 RS m cs) = .exc 3 [("word", .int y), ("line", .int z)] st1) (ht : st1.take st0.length = st0) :
    mDef 3 (bWork mk chap hd past) [x] st0 = .exc 3 [("word", .int y), ("line", .int z)] st0 := by
  obtain ⟨fuel, hf⟩ := work_reach (hd := hd) hmk h0c e0 hz hm1 (by omega) hcs hlow hh hc
  have g := d_excT (n := 3) (ds := [x]) (st := st0) (m := bWork mk chap hd past) ((hf _).trans (s_seqX (w_raise (cw_more (hz m) (by omega) he) (lw_raise hx))))
  rw [g, ht]
/-- behind 6 chapters there is one line more -/
theorem work_excP {m : Nat} {c0 : D} {cs : List D} {st1 : Store} (hmk : mk [x] st0 = .ok (.box st0.length) (st0 ++ [.ins 0 (RS 0)])) (h0c : chap [.box st0.length] (st0 ++ [.ins 0 (RS 0)]) = .ok c0 (st0 ++ [.ins 0 (RS 1)])) (e0 : cs[0]? = some c0)
    (hz : ∀ k, (RS k).lookup ("head" : Str) = none) (hzp : (RS m).lookup ("past" : Str) = none) (hm1 : 1 ≤ m) (hm : m = 6) (hcs : cs.length = m) (hlow : ∀ c ∈ cs, c.low 0 = true)
    (hh : ∀ k f, 1 ≤ k → k < m → ∃ y, hd [.box st0.length] (stW st0 RS k f) = .ok (.str y) (stW st0 RS k f))
    (hc : ∀ k f c, 1 ≤ k → cs[k]? = some c → chap [.box st0.length] (stW st0 RS k f) = .ok c (stW st0 RS (k + 1) f))
    (hp : past [.box st0.length] (stW st0 RS m cs) = .exc 3 [("word", .int y), ("line", .int z)] st1) (ht : st1.take st0.length = st0) :
    mDef 3 (bWork mk chap hd past) [x] st0 = .exc 3 [("word", .int y), ("line", .int z)] st0 := by
  obtain ⟨fuel, hf⟩ := work_reach (hd := hd) hmk h0c e0 hz hm1 (by omega) hcs hlow hh hc
  have g := d_excT (n := 3) (ds := [x]) (st := st0) (m := bWork mk chap hd past) ((hf _).trans (s_seq (w_end (cw_six (by omega))) (s_seqX (s_dropX (e_meth (e_var rfl) stW_rd hzp e_nil hp)))))
  rw [g, ht]
/-- the head of a later line raises (it is no text) -/
theorem work_excH {m : Nat} {c0 : D} {cs : List D} {st1 : Store} (hmk : mk [x] st0 = .ok (.box st0.length) (st0 ++ [.ins 0 (RS 0)])) (h0c : chap [.box st0.length] (st0 ++ [.ins 0 (RS 0)]) = .ok c0 (st0 ++ [.ins 0 (RS 1)])) (e0 : cs[0]? = some c0)
    (hz : ∀ k, (RS k).lookup ("head" : Str) = none) (hm1 : 1 ≤ m) (hm : m < 6) (hcs : cs.length = m) (hlow : ∀ c ∈ cs, c.low 0 = true)
    (hh : ∀ k f, 1 ≤ k → k < m → ∃ y, hd [.box st0.length] (stW st0 RS k f) = .ok (.str y) (stW st0 RS k f))
    (hc : ∀ k f c, 1 ≤ k → cs[k]? = some c → chap [.box st0.length] (stW st0 RS k f) = .ok c (stW st0 RS (k + 1) f))
    (he : hd [.box st0.length] (stW st0 RS m cs) = .exc 3 [("word", .int y), ("line", .int z)] st1) (ht : st1.take st0.length = st0) :
    mDef 3 (bWork mk chap hd past) [x] st0 = .exc 3 [("word", .int y), ("line", .int z)] st0 := by
  obtain ⟨fuel, hf⟩ := work_reach (hd := hd) hmk h0c e0 hz hm1 (by omega) hcs hlow hh hc
  have c1 : cWork hd (envW x st0) (stW st0 RS m cs) = .exc 3 [("word", .int y), ("line", .int z)] st1 := by
    refine e_andt (e_test (e_op (e_call (e_cons (e_var rfl) e_nil) (len_box stW_f)) e_c (lt_ok (decide_eq_true (by omega))))) ?_
    have e := e_meth (c := 0) (z := "head") (m := hd) (mo := mVar 1) (ma := mNil) (env := envW x st0) (e_var rfl) stW_rd (hz m) e_nil he
    unfold mTest mNotN mUn
    rw [e]; rfl
  have c2 : whileL (cWork hd) (lWork chap) (fuel + 1) (envW x st0) (stW st0 RS m cs) = .exc 3 [("word", .int y), ("line", .int z)] (envW x st0) st1 := by
    unfold whileL
    rw [c1]; rfl
  have g := d_excT (n := 3) (ds := [x]) (st := st0) (m := bWork mk chap hd past) ((hf _).trans (s_seqX c2))
  rw [g, ht]
end
end Draw
end
section
set_option Elab.async false
set_option linter.all false
set_option maxRecDepth 100000
set_option maxHeartbeats 1000000
namespace Law
open PySem L2 DL Draw
section
variable {QD : D → Store → Prop} {X : XQ} {st : Store} {i : Nat}
/-- a drawn reading -/
abbrev Rdg := List (List Nat × Nat)
def GoodP (ws : List Str) (x : List Nat × Nat) : Prop := (isW x.1 = true ∧ SX.S x.1 ∈ ws) ∧ x.2 ≤ 2
def readD (xs : Rdg) : D := .tup (xs.map pairD)
theorem isW_of {L : Nat} {y : Str} (h : WordOk L y) (hL : L ≤ 7) : isW y.cps.toList = true := by
  obtain ⟨h1, h2, h3⟩ := h
  unfold isW
  simp only [Bool.and_eq_true, decide_eq_true_eq, List.all_eq_true, lowAz]
  exact ⟨⟨h1, by omega⟩, fun c hc => h3 c hc⟩
theorem wide_w {ws : List Str} (s : SrcAt st i) (hw : ∀ w ∈ ws, WordOk 7 w) (hne : ws ≠ []) (hl : ws.length ≤ 1000)
    (q : ∀ (xs : Rdg) st', xs.length ≤ 100 → (∀ x ∈ xs, GoodP ws x) → Adv i st st' → QD (readD xs) st') : W (m_law_wide_reading [.box i, .lst (ws.map .str)] st) QD X := by
  refine w_defL ?_
  unfold b_law_wide_reading
  simp only [bp1, bp2, ws_seq, q_next, q_pick, q_one_in, q_one_of]
  have fin : ∀ (n : Int) (s1 : Store) (X' : XQ), 0 ≤ n → n ≤ 100 → Adv i st s1 → W (rng1 [.int n] s1) (fun src st1 => W (lcSrc (gvName 3) mYes (mTup (mCons (mCall Draw.m_law_one_of (mCons (mVar 0) (mCons (mVar 1) mNil))) (mCons (mCall Draw.m_law_pick (mCons (mVar 0) (mCons (mC (.int 3)) mNil))) mNil))) src [some (.box i), some (.lst (ws.map .str)), some (.int n), none] st1)
      (fun r st2 => QD (.tup r) (st2.take st.length) ∧ D.low 0 (.tup r) = true) X') X' := fun n s1 X' h0 h1 ad => by
    rw [v_rng1i h0 (by omega)]
    refine lc_w (R := fun y => ∃ x, GoodP ws x ∧ y = pairD x) (I := fun s => Adv i st s) (by rw [rangeD_len]; unfold lim; omega) ad (fun d hd s2 a2 => ⟨_, v_gname, ?_⟩) fun ys s2 hl hR a2 => ?_
    · simp only [bp1, bp2, ws_seq]
      refine one_of_w (ds := ws.map .str) (a2.src s) rfl (by simpa using hne) (by simp; omega) (low_strs _ _) fun y s3 hy a3 => ?_
      refine pick_w (a3.src (a2.src s)) (by decide) (by decide) fun k s4 k0 k1 a4 => ?_
      obtain ⟨w, hw', rfl⟩ := List.mem_map.mp hy
      refine ⟨by rw [sizeLine_eq]; show 2 ≤ _; decide, (a2.trans a3).trans a4, (w.cps.toList, k.toNat), ⟨⟨isW_of (hw w hw') (by omega), by rw [SX.S_tl]; exact hw'⟩, by simp only []; omega⟩, ?_⟩
      unfold pairD
      simp only [SX.S_tl]
      rw [show ((k.toNat : Nat) : Int) = k by omega]
    · have : ∃ xs : Rdg, ys = xs.map pairD ∧ ∀ x ∈ xs, GoodP ws x := by
        clear hl
        induction ys with
        | nil => exact ⟨[], rfl, by simp⟩
        | cons y ys ih =>
          obtain ⟨x, hx, rfl⟩ := hR y List.mem_cons_self
          obtain ⟨xs, rfl, h⟩ := ih fun z hz => hR z (List.mem_cons_of_mem _ hz)
          exact ⟨x :: xs, rfl, fun z hz => (List.mem_cons.mp hz).elim (fun e => e ▸ hx) (h z)⟩
      obtain ⟨xs, rfl, h⟩ := this
      rw [rangeD_len] at hl
      refine ⟨?_, low_tup fun y hy => ?_⟩
      · rw [a2.take]
        exact q xs s2 (by rw [List.length_map] at hl; omega) h a2
      · obtain ⟨x, _, rfl⟩ := List.mem_map.mp hy
        rfl
  refine next_w s fun s1 a1 => ?_
  refine pick_w (a1.src s) (by decide) (by decide) fun n s2 n0 n1 a2 => ?_
  refine one_in_w (a2.src (a1.src s)) (by decide) (by decide) fun b s3 a3 => ?_
  have a13 := (a1.trans a2).trans a3
  refine ⟨fun _ => ?_, fun _ => ?_⟩
  · refine pick_w (a13.src s) (by decide) (by decide) fun k s4 k0 k1 a4 => ?_
    simp only [bp1, bp2, ws_seq]
    exact (fin (58 + k) s4 _ (by omega) (by omega) (a13.trans a4)).imp fun src s h => h.imp fun r s2 z => ⟨z.2, z.1⟩
  · exact (fin n s3 _ n0 (by omega) a13).imp fun src s h => h.imp fun r s2 z => ⟨z.2, z.1⟩
end
end Law
end
section
set_option Elab.async false
set_option linter.all false
set_option maxRecDepth 100000
set_option maxHeartbeats 1000000
namespace Draw
open PySem L2 DL

/-! ### the words of a line -/
theorem words_one {l : List Nat} (h : 32 ∉ l) : wordsL l = [l] := TL.spl_last1 (acc := []) h
theorem words_more {l r : List Nat} (h : (brk 32 l).2 = some r) : wordsL l = (brk 32 l).1 :: wordsL r := by
  obtain ⟨h1, h2⟩ := brk_some h
  unfold wordsL
  conv => lhs; rw [h2]
  exact TL.spl_part1 (s := 32) (S := []) (rest := r) (acc := []) h1
theorem words_all : ∀ (n : Nat) (l : List Nat), l.length ≤ n → (∃ w ws, wordsL l = w :: ws) ∧ (∀ w ∈ wordsL l, w.length ≤ l.length) ∧ (wordsL l).length ≤ l.length + 1
  | n, l, hn => by
    cases hb : (brk 32 l).2 with
    | none =>
      rw [words_one (brk_none hb).1]
      exact ⟨⟨_, _, rfl⟩, fun w hw => by rw [List.mem_singleton.mp hw]; exact Nat.le_refl _, by simp⟩
    | some r =>
      obtain ⟨h1, h2⟩ := brk_some hb
      have hl : l.length = (brk 32 l).1.length + (r.length + 1) := by
        conv => lhs; rw [h2]
        rw [List.length_append, List.length_cons]
      rw [words_more hb]
      match n with
      | 0 => omega
      | n + 1 =>
        obtain ⟨_, i2, i3⟩ := words_all n r (by omega)
        refine ⟨⟨_, _, rfl⟩, fun w hw => ?_, by rw [List.length_cons]; omega⟩
        rcases List.mem_cons.mp hw with rfl | hw
        · omega
        · have := i2 w hw; omega
theorem words_cons (l : List Nat) : ∃ w ws, wordsL l = w :: ws := (words_all _ l (Nat.le_refl _)).1
theorem words_small {l w : List Nat} (h : w ∈ wordsL l) : w.length ≤ l.length := (words_all _ l (Nat.le_refl _)).2.1 w h
theorem words_count (l : List Nat) : (wordsL l).length ≤ l.length + 1 := (words_all _ l (Nat.le_refl _)).2.2
theorem words_join {ps : List (List Nat)} (hne : ps ≠ []) (h : ∀ p ∈ ps, 32 ∉ p) : wordsL (TL.joinL [32] ps) = ps := SX.spl_join hne h
/-! what lines say -/
/-- the pairs of some words; or the number of the first that is none -/
def pairsV : List (List Nat) → Nat ⊕ List (List Nat × Nat)
  | [] => .inr []
  | w :: ws => match pickV w with
    | none => .inl 0
    | some x => match pairsV ws with
      | .inl i => .inl (i + 1)
      | .inr xs => .inr (x :: xs)
theorem pairsV_ok : ∀ {ws : List (List Nat)} {xs : List (List Nat × Nat)}, pairsV ws = .inr xs → ws.map pickV = xs.map some
  | [], xs, h => by cases h; rfl
  | w :: ws, xs, h => by
    unfold pairsV at h
    cases e : pickV w with
    | none => rw [e] at h; cases h
    | some x =>
      rw [e] at h
      simp only [] at h
      cases e2 : pairsV ws with
      | inl i => rw [e2] at h; cases h
      | inr ys => rw [e2] at h; cases h; rw [List.map_cons, List.map_cons, e, pairsV_ok e2]
theorem pairsV_bad : ∀ {ws : List (List Nat)} {i : Nat}, pairsV ws = .inl i → ∃ w, ws[i]? = some w ∧ pickV w = none ∧ ∀ k < i, ∃ w x, ws[k]? = some w ∧ pickV w = some x
  | [], i, h => by cases h
  | w :: ws, i, h => by
    unfold pairsV at h
    cases e : pickV w with
    | none => rw [e] at h; cases h; exact ⟨w, rfl, e, fun k hk => absurd hk (Nat.not_lt_zero _)⟩
    | some x =>
      rw [e] at h
      simp only [] at h
      cases e2 : pairsV ws with
      | inr ys => rw [e2] at h; cases h
      | inl j =>
        rw [e2] at h; cases h
        obtain ⟨w', h1, h2, h3⟩ := pairsV_bad e2
        refine ⟨w', h1, h2, fun k hk => ?_⟩
        cases k with
        | zero => exact ⟨w, x, rfl, e⟩
        | succ k => exact h3 k (by omega)
/-- one line: the first word that cannot stand there, or its pairs -/
def lineV (l : List Nat) : Nat ⊕ List (List Nat × Nat) := match wordsL l with
  | [] => .inl 0
  | w :: ws => if w = readC then (match pairsV ws with
    | .inl i => .inl (i + 1)
    | .inr xs => .inr xs) else .inl 0
def lineD : D → Nat ⊕ List (List Nat × Nat)
  | .str s => lineV s.cps.toList
  | _ => .inl 0
/-- the lines from the k-th on -/
def workV : Nat → List D → (Nat × Nat) ⊕ List (List (List Nat × Nat))
  | _, [] => .inr []
  | k, d :: ds => if k = 6 then .inl (k, 0) else match lineD d with
    | .inl w => .inl (k, w)
    | .inr xs => match workV (k + 1) ds with
      | .inl e => .inl e
      | .inr r => .inr (xs :: r)
def dueV : List D → (Nat × Nat) ⊕ List (List (List Nat × Nat))
  | [] => .inl (0, 0)
  | ds => workV 0 ds
def readD (xs : List (List Nat × Nat)) : D := .tup (xs.map pairD)
def dueD : (Nat × Nat) ⊕ List (List (List Nat × Nat)) → D
  | .inl e => .tup [.str ("BadLine" : Str), .int e.1, .int e.2]
  | .inr r => .tup [.str ("told" : Str), .tup (r.map readD)]
/-- things that are handed in as lines -/
inductive LineOk : D → Prop
  | str {s : Str} (h : s.cps.toList.length + 2 ≤ 99999) : LineOk (.str s)
  | non : LineOk .non
  | int (i : Int) : LineOk (.int i)
  | bl (b : Bool) : LineOk (.bl b)
  | tup {xs : List D} (h : D.lows 0 xs = true) : LineOk (.tup xs)
  | lst {xs : List D} (h : D.lows 0 xs = true) : LineOk (.lst xs)
theorem LineOk.low {d : D} (h : LineOk d) : d.low 0 = true := by
  cases h with
  | tup h => exact h
  | lst h => exact h
  | _ => rfl
end Draw
end
section
set_option Elab.async false
set_option linter.all false
set_option maxRecDepth 100000
set_option maxHeartbeats 1000000
namespace Law
open PySem L2 DL Draw
section
variable {QD : D → Store → Prop} {X : XQ} {st : Store} {i j k : Nat} {L : List D} {ln p : Int} {r : D}
theorem sh_int {k : Nat} (h : k < 2 ^ 63) : shD (.int k) = true := by
  unfold shD
  refine decide_eq_true ?_
  rw [Int.natAbs_natCast]
  by_cases h0 : k = 0
  · subst h0; decide
  · exact Nat.lt_trans ((Nat.log2_lt h0).mpr h) (by decide)
theorem tl_S (l : List Nat) : (SX.S l).cps.toList = l := by simp [SX.S]
theorem sh2 {a b : Nat} (ha : a < 2 ^ 63) (hb : b < 2 ^ 63) : [D.int a, D.int b].all shD = true := by
  simp only [List.all_cons, List.all_nil, sh_int ha, sh_int hb]; rfl
theorem isWord_ok (l : List Nat) (q : Store) (h : l.length ≤ lim) : m_is_word [.str (SX.S l)] q = .ok (.bl (isW l)) q := by
  rw [q_is_word]
  have e := is_word_ok (n := nC) (J := jC) (st := q) (y := SX.S l) (by rw [SX.S_len]; exact h)
  rw [tl_S] at e
  exact e
theorem isPick_ok (l : List Nat) (q : Store) (h : l.length ≤ lim) : m_is_pick_text [.str (SX.S l)] q = .ok (.bl (pickV l).isSome) q := by
  rw [q_is_pick]; exact is_pick_ok isWord_ok h
theorem head_strQ {l : List Nat} (hj : st[j]? = some (.ins 0 (fsR L ln r p))) (hk : ln + 1 = (k : Int)) (hd : L[k]? = some (.str (SX.S l))) (hll : l.length + 2 ≤ lim) {w : List Nat} {ws : List (List Nat)} (hw : wordsL l = w :: ws) : m_LineReader_head [.box j] st = .ok (.str (SX.S w)) st := by
  rw [q_head]; exact head_str hj (by decide) q_fields hk hd hll hw
theorem head_endQ (hj : st[j]? = some (.ins 0 (fsR L ln r p))) (hk : ln + 1 = (L.length : Int)) : m_LineReader_head [.box j] st = .ok .non st := by
  rw [q_head]; exact head_end hj (by decide) q_fields hk
theorem not_str {d : D} (h : LineOk d) (hs : ∀ s, d ≠ .str s) : isi1 nC jC d (.ty "str") st = .ok (.bl false) st := by
  cases h with
  | str _ => exact absurd rfl (hs _)
  | non => exact isi_ok rfl (by decide +kernel)
  | int i => exact isi_ok rfl (by decide +kernel)
  | bl b => exact isi_ok rfl (by decide +kernel)
  | tup _ => exact isi_ok rfl (by decide +kernel)
  | lst _ => exact isi_ok rfl (by decide +kernel)
theorem head_oddQ {d : D} (hj : st[j]? = some (.ins 0 (fsR L ln r p))) (hk : ln + 1 = (k : Int)) (hd : L[k]? = some d) (ho : LineOk d) (hs : ∀ s, d ≠ .str s) (hb : k < 2 ^ 63) : m_LineReader_head [.box j] st = .exc 3 [("word", .int 0), ("line", .int k)] st := by
  rw [q_head]; exact head_odd hj (by decide) q_fields hk hd (not_str ho hs) (sh2 (a := k) (b := 0) hb (by decide))
theorem texts_get {ws : List (List Nat)} {m : Nat} {x : D} (h : (ws.map fun p => D.str (SX.S p))[m]? = some x) : ∃ w, ws[m]? = some w ∧ x = .str (SX.S w) := by
  rw [List.getElem?_map] at h
  cases e : ws[m]? with
  | none => rw [e] at h; cases h
  | some w => rw [e] at h; cases h; exact ⟨w, rfl, rfl⟩
theorem low_textsM {ws : List (List Nat)} : ∀ x ∈ ws.map fun p => D.str (SX.S p), x.low 0 = true := fun x hx => by
  obtain ⟨w, _, rfl⟩ := List.mem_map.mp hx; rfl
def pkD : D → D
  | .str s => pairO (pickV s.cps.toList)
  | _ => .non
theorem pkD_s {v : List Nat} : pkD (.str (SX.S v)) = pairO (pickV v) := by
  show pairO (pickV _) = _
  rw [tl_S]
theorem chapter_w (hj : st[j]? = some (.ins 0 (fsR L ln r p))) (hk : ln + 1 = (k : Int)) (hk2 : k ≤ L.length) (hl : L.length ≤ 1000) (hLs : ∀ d ∈ L, LineOk d)
    (q : ∀ d xs r' p', L[k]? = some d → lineD d = .inr xs → QD (readD xs) (st.set j (.ins 0 (fsR L k r' p'))))
    (x : ∀ (w : Nat) mo, (∀ d, L[k]? = some d → lineD d = .inl w) → (L[k]? = none → w = 0) → X 3 [("word", .int w), ("line", .int k)] (st.set j mo)) : W (m_read_chapter [.box j] st) QD X := by
  have hkb : k < 2 ^ 63 := by omega
  have b2 := sh2 (a := k) (b := 0) hkb (by decide)
  have self := set_self hj
  rw [q_chapter]
  cases hd : L[k]? with
  | none =>
    have e : k = L.length := by
      have := List.getElem?_eq_none_iff.mp hd; omega
    have t := take_none (n := nC) (Na := naC) (w := readC) (b := true) hj (by decide) q_fields hk (head_endQ hj (by rw [hk, e])) rfl b2
    rw [← q_take, ← read_] at t
    rw [chapter_take (cg := 5) (rest := m_LineReader_rest) (pk := m_pick_of) hj t rfl]
    have := x 0 (.ins 0 (fsR L ln r p)) (fun d h => by rw [hd] at h; cases h) (fun _ => rfl)
    rw [self] at this
    exact this
  | some d =>
    have hm : d ∈ L := List.mem_of_getElem? hd
    have ho := hLs d hm
    by_cases hs : ∃ s, d = .str s
    · obtain ⟨s, rfl⟩ := hs
      obtain ⟨l, rfl⟩ : ∃ l, s = SX.S l := ⟨_, (SX.S_tl s).symm⟩
      have hll : l.length + 2 ≤ 99999 := by
        cases ho with
        | str h => rw [tl_S] at h; exact h
      have hlim : l.length + 2 ≤ lim := by unfold lim; omega
      obtain ⟨w, ws, hw⟩ := words_cons l
      have hh := head_strQ (k := k) hj hk hd hlim hw
      have wl : ∀ v ∈ w :: ws, v.length ≤ lim := fun v hv => by
        rw [← hw] at hv
        have := words_small hv
        omega
      have lD : lineD (.str (SX.S l)) = if w = readC then (match pairsV ws with | .inl i => .inl (i + 1) | .inr xs => .inr xs) else .inl 0 := by
        show lineV _ = _
        unfold lineV
        rw [tl_S, hw] <;> rfl
      by_cases hr : w = readC
      · subst hr
        rw [if_pos rfl] at lD
        have t := take_ok (n := nC) (Na := naC) hj (by decide) q_fields hk hd hlim hh
        rw [← q_take, ← read_, hw] at t
        have hj1 : (st.set j (MO.ins 0 (fsR L k (.lst ((readC :: ws).map fun p => .str (SX.S p))) 1)))[j]? = some (.ins 0 (fsR L k (.lst ((readC :: ws).map fun p => .str (SX.S p))) ((1 : Nat) : Int))) := get_set hj
        have lw : ((readC :: ws).map fun p => D.str (SX.S p)).length < 100000 := by
          have := words_count l
          rw [hw] at this
          rw [List.length_map]; omega
        have jl : j < (st.set j (MO.ins 0 (fsR L k (.lst ((readC :: ws).map fun p => .str (SX.S p))) 1))).length := (List.getElem?_eq_some_iff.mp hj1).1
        have good : ∀ (m : Nat) (y : D) (v : List Nat) (f : List D) (st1 : Store), j < st1.length → (readC :: ws)[m]? = some v → y = .str (SX.S v) → (pickV v).isSome = true →
            m_LineReader_one [.box j, .cls 5] (stK st1 j L k (.lst ((readC :: ws).map fun p => .str (SX.S p))) m f) = .ok y (stK st1 j L k (.lst ((readC :: ws).map fun p => .str (SX.S p))) (m + 1) f) := fun m y v f st1 hjl hv hy hp => by
          subst hy
          have g := one_ok (n := nC) (Na := naC) (cg := 5) (good := m_is_pick_text) (x := .str (SX.S v)) (stK_rd (f := f) (k := m) (r := .lst ((readC :: ws).map fun p => .str (SX.S p))) (ln := k) (L := L) hjl) (by decide) q_fields rfl (by rw [List.getElem?_map, hv]; rfl) (by rw [isPick_ok v _ (wl v (List.mem_of_getElem? hv)), hp]) rfl
          rw [← q_one, stK_set hjl] at g
          exact g
        have r0 : (pickV readC).isSome = true := by decide +kernel
        cases hp : pairsV ws with
        | inr xs =>
          rw [hp] at lD
          have pv := pairsV_ok hp
          have vs : ∀ (m : Nat) (v : List Nat), (readC :: ws)[m]? = some v → (pickV v).isSome = true := fun m v hv => by
            cases m with
            | zero => cases hv; exact r0
            | succ m =>
              have hv : ws[m]? = some v := hv
              have e : (ws.map pickV)[m]? = some (pickV v) := by rw [List.getElem?_map, hv]; rfl
              rw [pv, List.getElem?_map] at e
              cases ex : xs[m]? with
              | none => rw [ex] at e; cases e
              | some z =>
                rw [ex] at e
                have e2 : some z = pickV v := Option.some.inj e
                rw [← e2]; rfl
          have rr := rest_ok (n := nC) (Na := naC) (cg := 5) (one := m_LineReader_one) (shut := m_LineReader_shut) (k := 1) hj1 (by decide) q_fields rfl (fun m y f hm hy => by
              obtain ⟨v, hv, rfl⟩ := texts_get hy
              exact good m _ v f _ jl hv rfl (vs m v hv)) low_textsM (by rw [List.length_map]; exact Nat.succ_le_succ (Nat.zero_le _)) lw (fun f => by rw [q_shut]; exact shut_ok (stK_rd jl) (by decide) q_fields rfl)
          rw [← q_rest] at rr
          rw [set_same] at rr
          have pk : ∀ y ∈ ((readC :: ws).map fun p => D.str (SX.S p)).drop 1, ∀ q : Store, m_pick_of [y] q = .ok (pkD y) q ∧ (pkD y).low 0 = true := fun y hy q => by
            have hy : y ∈ ws.map fun p => D.str (SX.S p) := hy
            obtain ⟨v, hv, rfl⟩ := List.mem_map.mp hy
            have : ∃ z, pickV v = some z := by
              have m1 : pickV v ∈ ws.map pickV := List.mem_map_of_mem hv
              rw [pv] at m1
              obtain ⟨z, _, e⟩ := List.mem_map.mp m1
              exact ⟨z, e.symm⟩
            obtain ⟨z, hz⟩ := this
            rw [pkD_s, hz]
            exact ⟨by rw [q_pick_of]; exact pick_of_ok (wl v (List.mem_cons_of_mem _ hv)) hz, rfl⟩
          have g := chapter_ok (cg := 5) (take := m_LineReader_take) (rest := m_LineReader_rest) (pk := m_pick_of) hj t hj1 rr (fun y hy => pk y hy _) (by rw [List.length_drop]; unfold lim; omega) (by simp)
          rw [g]
          have e1 : (((readC :: ws).map fun p => D.str (SX.S p)).drop 1).map pkD = xs.map pairD := by
            show ((ws.map fun p => D.str (SX.S p))).map _ = _
            rw [List.map_map]
            have : ws.map (fun v => pairO (pickV v)) = xs.map pairD := by
              have := congrArg (List.map pairO) pv
              rw [List.map_map, List.map_map] at this
              exact this
            rw [← this]
            refine List.map_congr_left fun v _ => ?_
            exact pkD_s
          show QD (.tup _) _
          rw [e1]
          exact q _ xs _ _ hd lD
        | inl i =>
          rw [hp] at lD
          obtain ⟨v, h1, h2, h3⟩ := pairsV_bad hp
          have hi : i < ws.length := (List.getElem?_eq_some_iff.mp h1).1
          have vs : ∀ (m : Nat) (u : List Nat), m < i + 1 → (readC :: ws)[m]? = some u → (pickV u).isSome = true := fun m u hm hu => by
            cases m with
            | zero => cases hu; exact r0
            | succ m =>
              obtain ⟨u', z, a, b⟩ := h3 m (by omega)
              have hu : ws[m]? = some u := hu
              rw [a] at hu; cases hu
              rw [b]; rfl
          have rr := rest_exc (n := nC) (Na := naC) (cg := 5) (one := m_LineReader_one) (shut := m_LineReader_shut) (k := 1) (m := i + 1) hj1 (by decide) q_fields rfl (fun m y f hm hy => by
              obtain ⟨u, hu, rfl⟩ := texts_get hy
              exact good m _ u f _ jl hu rfl (vs m u hm hu)) low_textsM (by omega) (by rw [List.length_map, List.length_cons]; omega) lw (y := ((i + 1 : Nat) : Int)) (z := (k : Int)) (fun f => by
              rw [q_one]
              exact one_bad (ln' := k) (stK_rd jl) (by decide) q_fields rfl (x := .str (SX.S v)) (by rw [List.getElem?_map]; show (ws[i]?).map _ = _; rw [h1]; rfl) (by rw [isPick_ok v _ (wl v (List.mem_cons_of_mem _ (List.mem_of_getElem? h1))), h2]; rfl) (sh2 hkb (by
                rw [List.length_map, List.length_cons] at lw; omega)))
          rw [← q_rest, set_same] at rr
          rw [chapter_rest (cg := 5) (take := m_LineReader_take) (rest := m_LineReader_rest) (pk := m_pick_of) hj t hj1 rr (by simp)]
          exact x (i + 1) _ (fun d h => by rw [hd] at h; cases h; exact lD) (fun h => by rw [hd] at h; cases h)
      · rw [if_neg hr] at lD
        have t := take_none (n := nC) (Na := naC) (w := readC) (b := true) hj (by decide) q_fields hk hh (by
          show some (SX.S w == SX.S readC) = some false
          congr 1
          rw [beq_eq_false_iff_ne]
          intro z
          exact hr (by have := congrArg (fun s : Str => s.cps.toList) z; simpa [tl_S] using this)) b2
        rw [← q_take, ← read_] at t
        rw [chapter_take (cg := 5) (rest := m_LineReader_rest) (pk := m_pick_of) hj t rfl]
        have := x 0 (.ins 0 (fsR L ln r p)) (fun d h => by rw [hd] at h; cases h; exact lD) (fun _ => rfl)
        rw [self] at this
        exact this
    · have hs' : ∀ s, d ≠ .str s := fun s e => hs ⟨s, e⟩
      have t := take_odd (n := nC) (Na := naC) (w := readC) hj (head_oddQ hj hk hd ho hs' hkb)
      rw [← q_take, ← read_] at t
      rw [chapter_take (cg := 5) (rest := m_LineReader_rest) (pk := m_pick_of) hj t rfl]
      have := x 0 (.ins 0 (fsR L ln r p)) (fun d' h => by
        rw [hd] at h; cases h
        cases ho with
        | str _ => exact absurd rfl (hs' _)
        | _ => rfl) (fun _ => rfl)
      rw [self] at this
      exact this
end
end Law
end
section
set_option Elab.async false
set_option linter.all false
set_option maxRecDepth 100000
set_option maxHeartbeats 1000000
namespace Law
open PySem L2 DL Draw
section
variable {QD : D → Store → Prop} {X : XQ} {st : Store} {i j k : Nat} {L : List D} {ln p : Int} {r : D}
theorem v_fld {n c : Nat} {Na : Nat → Str → Bool} {f : Str} {fs : List (Str × D)} {y : D} (hj : st[j]? = some (.ins c fs)) (hc : c < n) (hN : Na c f = true) (hx : fs.lookup f = some y) (q : QD y st) : W (dFld n Na f (.box j) st) QD X := by
  unfold dFld fv
  simp only [hj]
  rw [if_pos ⟨hc, hN⟩, hx]; exact q
theorem lk_past {r : D} : (fsR L ln r p).lookup ("past" : Str) = none := by
  have a : (("past" : Str) == ("lines" : Str)) = false := by decide +kernel
  have b : (("past" : Str) == ("line" : Str)) = false := by decide +kernel
  have c : (("past" : Str) == ("words" : Str)) = false := by decide +kernel
  have d : (("past" : Str) == ("place" : Str)) = false := by decide +kernel
  simp only [fsR, List.lookup_cons, a, b, c, d, List.lookup_nil]
theorem head_w (hj : st[j]? = some (.ins 0 (fsR L ln r p))) (hk : ln + 1 = (k : Int)) (hk2 : k ≤ L.length) (hl : L.length ≤ 1000) (hLs : ∀ d ∈ L, LineOk d)
    (q0 : L[k]? = none → QD .non st) (q1 : ∀ s, L[k]? = some (.str s) → ∀ y, QD (.str y) st) (x : ∀ d, L[k]? = some d → (∀ s, d ≠ .str s) → X 3 [("word", .int 0), ("line", .int k)] st) : W (m_LineReader_head [.box j] st) QD X := by
  cases hd : L[k]? with
  | none =>
    have e : k = L.length := by
      have := List.getElem?_eq_none_iff.mp hd; omega
    rw [head_endQ hj (by rw [hk, e])]; exact q0 hd
  | some d =>
    have hm : d ∈ L := List.mem_of_getElem? hd
    have ho := hLs d hm
    by_cases hs : ∃ s, d = .str s
    · obtain ⟨s, rfl⟩ := hs
      obtain ⟨l, rfl⟩ : ∃ l, s = SX.S l := ⟨_, (SX.S_tl s).symm⟩
      have hll : l.length + 2 ≤ 99999 := by
        cases ho with
        | str h => rw [tl_S] at h; exact h
      obtain ⟨w, ws, hw⟩ := words_cons l
      rw [head_strQ (k := k) hj hk hd (by unfold lim; omega) hw]; exact q1 _ hd _
    · have hs' : ∀ s, d ≠ .str s := fun s e => hs ⟨s, e⟩
      rw [head_oddQ hj hk hd ho hs' (by omega)]; exact x d hd hs'
theorem past_w (hj : st[j]? = some (.ins 0 (fsR L ln r p))) (hk : ln + 1 = (k : Int)) (hk2 : k ≤ L.length) (hl : L.length ≤ 1000) (hLs : ∀ d ∈ L, LineOk d)
    (q : L[k]? = none → QD .non st) (x : ∀ d, L[k]? = some d → X 3 [("word", .int 0), ("line", .int k)] st) : W (m_LineReader_past [.box j] st) QD X := by
  rw [q_past]
  refine w_defL ?_
  unfold bPast
  have hf : fv st (.box j) = some (0, fsR L ln r p) := by unfold fv; simp only [hj]
  simp only [bp1, bp2, ws_seq, hf, lk_head, List.take_length]
  refine head_w hj hk hk2 hl hLs (fun hd => ?_) (fun s hd y => ?_) fun d hd hs => ?_
  · refine ⟨(fun h => by cases h), fun _ => ?_⟩
    rw [List.take_length]; exact q hd
  · refine ⟨fun _ => ?_, fun h => by cases h⟩
    refine v_fld hj (by decide) (q_fields _ (by simp)) lk_line ?_
    simp only [bp1, bp2, ws_seq, hk, List.take_length]
    refine ⟨sh2 (a := k) (b := 0) (by omega) (by decide), rfl, ?_⟩
    exact x _ hd
  · exact ⟨rfl, by rw [List.take_length]; exact x d hd⟩
theorem use_fin {p q : Prop} (e : p = q) (h : p) : q := e ▸ h
/-- what the first lines say, put ahead -/
def ahead (rs : List Rdg) : (Nat × Nat) ⊕ List Rdg → (Nat × Nat) ⊕ List Rdg
  | .inl e => .inl e
  | .inr r => .inr (rs ++ r)
theorem workV_at {d : D} (hd : L[k]? = some d) : workV k (L.drop k) = if k = 6 then .inl (k, 0) else match lineD d with
    | .inl w => .inl (k, w)
    | .inr xs => ahead [xs] (workV (k + 1) (L.drop (k + 1))) := by
  have hl : k < L.length := (List.getElem?_eq_some_iff.mp hd).1
  have e : L[k] = d := (List.getElem?_eq_some_iff.mp hd).2
  rw [List.drop_eq_getElem_cons hl, e]
  conv => lhs; unfold workV
  split
  · rfl
  · cases lineD d with
    | inl w => rfl
    | inr xs => cases workV (k + 1) (L.drop (k + 1)) <;> rfl
theorem workV_end (hk : L.length ≤ k) : workV k (L.drop k) = .inr [] := by
  rw [List.drop_eq_nil_of_le hk]; rfl
theorem ahead_ahead {a b : List Rdg} {v : (Nat × Nat) ⊕ List Rdg} : ahead a (ahead b v) = ahead (a ++ b) v := by
  cases v with
  | inl e => rfl
  | inr r => show Sum.inr _ = Sum.inr _; rw [List.append_assoc]
theorem low_read (xs : Rdg) : (readD xs).low 0 = true := low_tup fun y hy => by
  obtain ⟨x, _, rfl⟩ := List.mem_map.mp hy; rfl
theorem low_reads (rs : List Rdg) (n : Nat) : D.lows n (rs.map readD) = true := lows_all fun y hy => by
  obtain ⟨x, _, rfl⟩ := List.mem_map.mp hy; exact low_up _ (low_read x)
theorem dueV_eq (h : L ≠ []) : dueV L = workV 0 (L.drop 0) := by
  cases L with
  | nil => exact absurd rfl h
  | cons d ds => rfl
theorem read_work_w {a : D} (ha : rowOf a = some L) (hl : L.length ≤ 1000) (hLs : ∀ d ∈ L, LineOk d)
    (q : ∀ rs, dueV L = .inr rs → QD (.tup (rs.map readD)) st) (x : ∀ y z, dueV L = .inl (y, z) → X 3 [("word", .int z), ("line", .int y)] st) : W (m_read_work [a] st) QD X := by
  rw [q_work]
  refine w_defL ?_
  unfold bWork
  have mk := make_ok (st := st) (n := nC) (Na := naC) (by decide) q_fields ha fun d hd => (hLs d hd).low
  rw [← q_init] at mk
  simp only [bp1, bp2, ws_seq, mk]
  have j0 : (st ++ [MO.ins 0 (fsR L (-1) (.tup []) 0)])[st.length]? = some (.ins 0 (fsR L (-1) (.tup []) 0)) := by simp
  have tk : ∀ (mo : MO), ((st ++ [MO.ins 0 (fsR L (-1) (.tup []) 0)]).set st.length mo) = st ++ [mo] := fun mo => by
    rw [List.set_append_right _ _ (Nat.le_refl _)]; simp
  have lowX : ∀ (y z : Nat), D.lowF 0 [(("word" : Str), D.int y), ("line", .int z)] = true := fun y z => rfl
  refine chapter_w (k := 0) j0 rfl (Nat.zero_le _) hl hLs (fun d xs r' p' hd hx => ?_) fun w mo h1 h2 => ?_
  · have hne : L ≠ [] := fun e => by rw [e] at hd; cases hd
    have dv := dueV_eq hne
    rw [workV_at hd, if_neg (by decide), hx] at dv
    rw [tk]
    have e1 : (st ++ [MO.ins 0 (fsR L ((0 : Nat) : Int) r' p')]).length = st.length + 1 := by simp
    refine ⟨⟨by rw [sizeLine_eq]; show 1 ≤ _; decide, low_reads [xs] _⟩, ?_⟩
    rw [e1, List.append_assoc]
    -- the loop
    let P : Nat → DEnv → Store → Prop := fun n env s => env = [some a, some (.box st.length), some (.box (st.length + 1))] ∧ ∃ (k : Nat) (rs : List Rdg) (r : D) (p : Int), n = L.length - k ∧ 1 ≤ k ∧ k ≤ 6 ∧ k ≤ L.length ∧ rs.length = k ∧ s = st ++ [.ins 0 (fsR L ((k : Int) - 1) r p), .lst (rs.map readD)] ∧ dueV L = ahead rs (workV k (L.drop k))
    have rdI : ∀ (u v : MO), (st ++ [u, v])[st.length]? = some u := fun u v => by
      rw [List.getElem?_append_right (Nat.le_refl _)]; simp
    have rdL : ∀ (u v : MO), (st ++ [u, v])[st.length + 1]? = some v := fun u v => by
      rw [List.getElem?_append_right (by omega)]; simp
    have stI : ∀ (u v w : MO), (st ++ [u, v]).set st.length w = st ++ [w, v] := fun u v w => by
      rw [List.set_append_right _ _ (Nat.le_refl _)]; simp
    have stL : ∀ (u v w : MO), (st ++ [u, v]).set (st.length + 1) w = st ++ [u, w] := fun u v w => by
      rw [List.set_append_right _ _ (by omega)]; simp
    have tkS : ∀ (u v : MO), (st ++ [u, v]).take st.length = st := fun u v => by simp
    have lk0 : L.length ≠ 0 := fun e => hne (List.length_eq_zero_iff.mp e)
    refine ws_whileM (P := P) (n := L.length - 1) (by omega) ⟨rfl, 1, [xs], r', p', rfl, Nat.le_refl 1, by omega, by omega, rfl, rfl, dv⟩ ?_
    rintro n env s ⟨rfl, k, rs, r, p, rfl, k1, k6, kL, hrs, rfl, hdv⟩
    have hk : (k : Int) - 1 + 1 = (k : Int) := by omega
    have fvI : ∀ (u v : MO) c fs, u = .ins c fs → fv (st ++ [u, v]) (.box st.length) = some (c, fs) := fun u v c fs e => by
      unfold fv; simp only [rdI, e]
    have fin : ∀ (left : L[k]? = none ∨ k = 6), WS (msSeq (msDrop (mMeth 0 ("past" : Str) m_LineReader_past (mVar 1) mNil)) (msRet (mCall bTuple (mCons (mVar 2) mNil))) [some a, some (.box st.length), some (.box (st.length + 1))] (st ++ [.ins 0 (fsR L ((k : Int) - 1) r p), .lst (rs.map readD)]))
        { N := fun _ s => QD .non (s.take st.length), R := fun d s => d.low 0 = true ∧ QD d (s.take st.length), X := fun c fs _ s => D.lowF 0 fs = true ∧ X c fs (s.take st.length) } := fun left => by
      simp only [bp1, bp2, ws_seq, fvI _ _ _ _ rfl]
      refine ⟨lk_past, past_w (rdI _ _) hk kL hl hLs (fun hd => ?_) fun d hd => ?_⟩
      · rw [workV_end (List.getElem?_eq_none_iff.mp hd)] at hdv
        show W (bTuple [.box (st.length + 1)] _) _ _
        have : bTuple [.box (st.length + 1)] (st ++ [.ins 0 (fsR L ((k : Int) - 1) r p), .lst (rs.map readD)]) = .ok (.tup (rs.map readD)) (st ++ [.ins 0 (fsR L ((k : Int) - 1) r p), .lst (rs.map readD)]) := by
          unfold bTuple vw; simp only [rdL]
        rw [this]
        refine ⟨low_reads rs 0, ?_⟩
        rw [tkS]
        refine q rs ?_
        rw [hdv]
        show Sum.inr (rs ++ []) = _
        rw [List.append_nil]
      · rcases left with h | h
        · rw [h] at hd; cases hd
        · refine ⟨rfl, ?_⟩
          rw [tkS]
          refine x k 0 ?_
          rw [hdv, workV_at hd, if_pos h]; rfl
    unfold cWork
    have ln2 : bLen [.box (st.length + 1)] (st ++ [.ins 0 (fsR L ((k : Int) - 1) r p), .lst (rs.map readD)]) = .ok (.int rs.length) (st ++ [.ins 0 (fsR L ((k : Int) - 1) r p), .lst (rs.map readD)]) := by
      rw [len_box (rdL _ _), List.length_map]
    simp only [bp1, bp2, ws_seq, fvI _ _ _ _ rfl, ln2, decide_eq_true_eq, decide_eq_false_iff_not]
    have fin2 := fun left => fin left
    simp only [bp1, bp2, ws_seq, fvI _ _ _ _ rfl] at fin2
    refine ⟨fun h6 => ⟨lk_head, head_w (rdI _ _) hk kL hl hLs (fun hd => ⟨(fun h => by cases h), fun _ => by simp only [bp1, bp2, ws_seq, fvI _ _ _ _ rfl]; exact fin2 (Or.inl hd)⟩) (fun s hd y => ⟨fun _ => ?_, fun h => by cases h⟩) fun d hd hs => ?_⟩, fun h6 => fin2 (Or.inr (by omega))⟩
    · have kl : k < L.length := (List.getElem?_eq_some_iff.mp hd).1
      refine ⟨L.length - (k + 1), by omega, ?_⟩
      unfold lWork
      have vlB : vl (st ++ [.ins 0 (fsR L ((k : Int) - 1) r p), .lst (rs.map readD)]) (.box (st.length + 1)) = some (rs.map readD) := by unfold vl; simp only [rdL]
      simp only [bp1, bp2, ws_seq, vlB]
      refine chapter_w (rdI _ _) hk kL hl hLs (fun d' xs' r2 p2 hd' hx' => ?_) fun w mo h1 h2 => ?_
      · rw [stI]
        rw [app_ok (rdL _ _) (by rw [List.length_map]; unfold lim; omega) (low_up _ (low_read _)), stL]
        refine ⟨rfl, k + 1, rs ++ [xs'], r2, p2, rfl, by omega, by omega, by omega, by rw [List.length_append, hrs]; rfl, ?_, ?_⟩
        · rw [List.map_append]
          rw [show ((k + 1 : Nat) : Int) - 1 = (k : Int) by omega]; rfl
        · rw [hdv, workV_at hd', if_neg (by omega), hx']
          simp only []
          rw [ahead_ahead]
      · rw [stI]
        refine ⟨rfl, ?_⟩
        rw [tkS]
        refine x k w ?_
        rw [hdv, workV_at hd, if_neg (by omega), h1 _ hd]; rfl
    · refine ⟨rfl, ?_⟩
      rw [tkS]
      refine x k 0 ?_
      have ld : lineD d = .inl 0 := by
        cases hLs d (List.mem_of_getElem? hd) with
        | str _ => exact absurd rfl (hs _)
        | _ => rfl
      rw [hdv, workV_at hd, if_neg (by omega), ld]; rfl
  · rw [tk]
    refine ⟨rfl, ?_⟩
    rw [show (st ++ [mo]).take st.length = st by simp]
    cases hd : L[0]? with
    | none =>
      have e : L = [] := by
        cases L with
        | nil => rfl
        | cons _ _ => cases hd
      rw [h2 hd]
      exact x 0 0 (by rw [e]; rfl)
    | some d =>
      have hne : L ≠ [] := fun e => by rw [e] at hd; cases hd
      refine x 0 w ?_
      rw [dueV_eq hne, workV_at hd, if_neg (by decide), h1 d hd]
end
end Law
end
section
set_option Elab.async false
set_option linter.all false
set_option maxRecDepth 100000
set_option maxHeartbeats 1000000
namespace Law
open PySem L2 DL Draw
section
variable {QD : D → Store → Prop} {X : XQ} {st : Store} {i j k : Nat} {L : List D} {ln p : Int} {r : D}
theorem read_reading_w {d : D} (ho : LineOk d) (q : ∀ xs, lineD d = .inr xs → QD (readD xs) st) (x : ∀ w : Nat, lineD d = .inl w → X 3 [("word", .int w), ("line", .int 0)] st) : W (m_read_reading [d] st) QD X := by
  refine w_defL ?_
  unfold b_read_reading
  have mk := make_ok (st := st) (n := nC) (Na := naC) (a := .tup [d]) (L := [d]) (by decide) q_fields rfl fun e he => by rw [List.mem_singleton.mp he]; exact ho.low
  rw [← q_init] at mk
  simp only [bp1, bp2, ws_seq, mk]
  refine ⟨by rw [sizeLine_eq]; show 1 ≤ _; decide, ?_⟩
  have j0 : (st ++ [MO.ins 0 (fsR [d] (-1) (.tup []) 0)])[st.length]? = some (.ins 0 (fsR [d] (-1) (.tup []) 0)) := by simp
  have tk : ∀ (mo : MO), ((st ++ [MO.ins 0 (fsR [d] (-1) (.tup []) 0)]).set st.length mo).take st.length = st := fun mo => by
    rw [List.set_append_right _ _ (Nat.le_refl _)]; simp
  refine chapter_w (k := 0) j0 rfl (Nat.zero_le _) (by show 1 ≤ 1000; decide) (fun e he => by rw [List.mem_singleton.mp he]; exact ho) (fun e xs r' p' hd hx => ?_) fun w mo h1 h2 => ?_
  · cases hd
    refine ⟨low_read xs, ?_⟩
    rw [tk]; exact q xs hx
  · refine ⟨rfl, ?_⟩
    rw [tk]; exact x w (h1 d rfl)
/-! None among pairs -/
def pyO : Option (List Nat × Nat) → PyData
  | none => .none
  | some x => .tuple [.str (SX.S x.1), .int x.2]
theorem py_pair (o : Option (List Nat × Nat)) : (pairO o).py = some (pyO o) := by
  cases o <;> rfl
theorem pys_pairs : ∀ os : List (Option (List Nat × Nat)), D.pys (os.map pairO) = some (os.map pyO)
  | [] => rfl
  | o :: os => by
    show ((pairO o).py).bind _ = _
    rw [py_pair, Option.bind_some, pys_pairs os]; rfl
theorem low_pairs {n : Nat} (os : List (Option (List Nat × Nat))) : D.lows n (os.map pairO) = true := lows_all fun y hy => by
  obtain ⟨o, _, rfl⟩ := List.mem_map.mp hy
  cases o <;> rfl
def WfO (o : Option (List Nat × Nat)) : Prop := ∀ x, o = some x → isW x.1 = true
theorem pick_wf (w : List Nat) : WfO (pickV w) := fun x hx => by
  unfold pickV at hx
  split at hx
  · rename_i h
    split at hx
    · cases hx; exact h
    · rename_i r e
      cases hp : pickN r with
      | none => rw [hp] at hx; cases hx
      | some k => rw [hp] at hx; cases hx; exact h
  · cases hx
theorem word_strOk {l : List Nat} (h : isW l = true) : PyData.strOk (SX.S l) = true := by
  unfold isW at h
  simp only [Bool.and_eq_true, decide_eq_true_eq, List.all_eq_true, lowAz] at h
  obtain ⟨⟨h1, h2⟩, h3⟩ := h
  unfold PyData.strOk
  rw [← Array.all_toList, tl_S, List.all_eq_true]
  intro c hc
  have := h3 c hc
  exact decide_eq_true (by omega)
theorem lay_pairs : ∀ {os : List (Option (List Nat × Nat))}, (∀ o ∈ os, WfO o) → PyData.canLayAll0 (os.map pyO) = true ∧ PyData.depthAll (os.map pyO) ≤ 1
  | [], _ => ⟨by simp [PyData.canLayAll0], by simp [PyData.depthAll]⟩
  | o :: os, h => by
    obtain ⟨i1, i2⟩ := lay_pairs (os := os) fun x hx => h x (List.mem_cons_of_mem _ hx)
    rw [List.map_cons]
    have h0 := h o List.mem_cons_self
    cases o with
    | none => exact ⟨by simp [PyData.canLayAll0, pyO, PyData.canLay0, i1], by simp [PyData.depthAll, pyO, PyData.depth, i2]⟩
    | some x =>
      have e := word_strOk (h0 x rfl)
      exact ⟨by simp [PyData.canLayAll0, pyO, PyData.canLay0, i1, e], by simp [PyData.depthAll, pyO, PyData.depth, i2]⟩
theorem none_at : ∀ os : List (Option (List Nat × Nat)), (os.map pyO).findIdx? (fun z => PyData.eqv z .none) = os.findIdx? Option.isNone
  | [] => rfl
  | o :: os => by
    rw [List.map_cons, List.findIdx?_cons, List.findIdx?_cons, none_at os]
    cases o <;> simp [pyO, PyData.eqv]
theorem none_in : ∀ os : List (Option (List Nat × Nat)), ((os.map pyO).any fun z => PyData.eqv z .none) = os.any Option.isNone
  | [] => rfl
  | o :: os => by
    rw [List.map_cons, List.any_cons, List.any_cons, none_in os]
    cases o <;> simp [pyO, PyData.eqv]
theorem shaped_pairs {os : List (Option (List Nat × Nat))} (h : ∀ o ∈ os, WfO o) : SeqAt.shaped (.list (os.map pyO)) = true := by
  obtain ⟨h1, h2⟩ := lay_pairs h
  unfold SeqAt.shaped
  rw [Bool.and_eq_true]
  exact ⟨by simp [PyData.canLay0, h1], decide_eq_true (by simp only [PyData.depth]; omega)⟩
theorem fz0 {d : D} (h : d.low 0 = true) : fz 0 st d = d := sub_id d h
theorem inP_none {os : List (Option (List Nat × Nat))} (h : ∀ o ∈ os, WfO o) : dInP false .non (.lst (os.map pairO)) st = .ok (.bl (os.any Option.isNone)) st := by
  unfold dInP
  rw [fz0 (d := .non) rfl, fz0 (d := .lst (os.map pairO)) (show D.lows 0 _ = true from low_pairs os)]
  have e : (D.lst (os.map pairO)).py = some (.list (os.map pyO)) := by
    show (D.pys _).map _ = _
    rw [pys_pairs]; rfl
  rw [e]
  simp only [D.py, pyL]
  rw [if_pos ⟨by decide +kernel, shaped_pairs h⟩, none_in]
  simp
theorem indexP_none {os : List (Option (List Nat × Nat))} {n : Nat} (h : ∀ o ∈ os, WfO o) (hn : os.findIdx? Option.isNone = some n) : dIndexP (.lst (os.map pairO)) [.non] st = .ok (.int n) st := by
  unfold dIndexP vl
  simp only []
  rw [fz0 (d := .non) rfl, fz0 (d := .lst (os.map pairO)) (show D.lows 0 _ = true from low_pairs os)]
  have e : (D.lst (os.map pairO)).py = some (.list (os.map pyO)) := by
    show (D.pys _).map _ = _
    rw [pys_pairs]; rfl
  rw [e]
  simp only [D.py, pyL]
  rw [if_pos ⟨shaped_pairs h, by decide +kernel⟩, none_at, hn]
/-! the law's own reading of lines -/
theorem ws_range {b : D → MS} {ks : KS} {env : DEnv} {n : Nat} {P : Nat → DEnv → Store → Prop} (h0 : P 0 env st) (hs : ∀ k env st, k < n → P k env st → WS (b (.int k) env st) { ks with N := P (k + 1), C := P (k + 1), B := ks.N }) (h1 : ∀ env st, P n env st → ks.N env st) : WS (forFix b (rangeD n) env st) ks := by
  refine ws_forFix (P := fun left env st => ∃ k, k ≤ n ∧ left = (rangeD n).drop k ∧ P k env st) ⟨0, Nat.zero_le _, rfl, h0⟩ (fun d ds env st h => ?_) fun env st h => ?_
  · obtain ⟨k, hk, e, p⟩ := h
    have hl : k < (rangeD n).length := by
      rcases Nat.lt_or_ge k (rangeD n).length with h | h
      · exact h
      · rw [List.drop_eq_nil_of_le h] at e; cases e
    have hl' : k < n := by rw [rangeD_len] at hl; exact hl
    rw [List.drop_eq_getElem_cons hl] at e
    injection e with e1 e2
    have e3 : d = .int k := by
      have e4 : (rangeD n)[k]? = some d := by rw [List.getElem?_eq_getElem hl, e1]
      unfold rangeD at e4
      rw [List.getElem?_map, List.getElem?_range hl'] at e4
      have e5 : D.int (0 + (k : Int)) = d := Option.some.inj e4
      rw [← e5, Int.zero_add]
    rw [e3]
    refine (hs k env st hl' p).mono (fun _ _ q => ⟨k + 1, hl', e2, q⟩) (fun _ _ q => q) (fun _ _ q => q) (fun _ _ q => ⟨k + 1, hl', e2, q⟩) fun _ _ _ _ q => q
  · obtain ⟨k, hk, e, p⟩ := h
    have : k = n := by
      have := congrArg List.length e
      rw [List.length_drop, rangeD_len] at this
      simp at this; omega
    subst this
    exact h1 env st p
theorem isWord_law (l : List Nat) (q : Store) (h : l.length ≤ lim) : m_law_is_word [.str (SX.S l)] q = .ok (.bl (isW l)) q := by
  rw [q_law_is_word]
  have e := law_is_word_ok (st := q) (y := SX.S l) (by rw [SX.S_len]; exact h)
  rw [tl_S] at e
  exact e
theorem isi_str {s : Str} : isi1 nC jC (.str s) (.ty "str") st = .ok (.bl true) st := isi_ok rfl (by decide +kernel)
theorem cut_take {α : Type} {xs : List α} {k : Nat} : cutD xs none (some (k : Int)) = xs.take k := by
  unfold cutD
  rw [HT.sIx_none, HT.sIx_nat, List.drop_zero, Nat.sub_zero]
  by_cases h : k ≤ xs.length
  · rw [Nat.min_eq_left h]
  · rw [Nat.min_eq_right (by omega), List.take_of_length_le (Nat.le_refl _), List.take_of_length_le (by omega)]
theorem cut_drop {α : Type} {xs : List α} {k : Nat} : cutD xs (some (k : Int)) none = xs.drop k := by
  unfold cutD
  rw [HT.sIx_none, HT.sIx_nat]
  by_cases h : k ≤ xs.length
  · rw [Nat.min_eq_left h, List.take_of_length_le (by rw [List.length_drop]; omega)]
  · rw [Nat.min_eq_right (by omega), Nat.sub_self, List.take_zero, List.drop_eq_nil_of_le (by omega)]
theorem cut1 {α : Type} {a : α} {l : List α} : cutD (a :: l) (some 1) none = l := cut_drop (k := 1)
theorem v_ixI {d x : D} {ds : List D} {k : Nat} (h : rowOf d = some ds) (hx : ds[k]? = some x) : W (dIx d (.int (k : Nat)) st) QD X = QD x st := v_ixN h hx
theorem law_read_w (hl : L.length ≤ 1000) (hLs : ∀ d ∈ L, LineOk d) (q : QD (dueD (dueV L)) st) : W (m_law_read [.lst L] st) QD X := by
  refine w_defL ?_
  unfold b_law_read
  simp only [bp1, bp2, ws_seq, List.take_length]
  have s3 : ∀ n, n ≤ 10 → n ≤ sizeLine := fun n h => by rw [sizeLine_eq]; omega
  refine ⟨fun h => ⟨s3 _ (by decide), rfl, ?_⟩, fun h => ⟨⟨s3 _ (by decide), rfl⟩, ?_⟩⟩
  · have e : L = [] := List.length_eq_zero_iff.mp (by simpa using h)
    rw [e] at q; exact q
  have hne : L ≠ [] := fun e => by rw [e] at h; simp at h
  rw [v_rng1 (by omega)]
  simp only [bp1, bp2, ws_seq]
  have rdL : ∀ (u : MO), (st ++ [u])[st.length]? = some u := fun u => by simp
  have stL : ∀ (u w : MO), (st ++ [u]).set st.length w = st ++ [w] := fun u w => by
    rw [List.set_append_right _ _ (Nat.le_refl _)]; simp
  have tkS : ∀ (u : MO), (st ++ [u]).take st.length = st := fun u => by simp
  let P : Nat → DEnv → Store → Prop := fun k env s => ∃ (e2 e3 e4 : Option D) (rs : List Rdg), env = [some (.lst L), some (.box st.length), e2, e3, e4, none] ∧ k ≤ 6 ∧ rs.length = k ∧ s = st ++ [.lst (rs.map readD)] ∧ dueV L = ahead rs (workV k (L.drop k))
  refine ws_range (P := P) ⟨none, none, none, [], rfl, by omega, rfl, rfl, by rw [dueV_eq hne]; cases workV 0 (L.drop 0) <;> rfl⟩ (fun k env s hk p => ?_) fun env s p => ?_
  · obtain ⟨e2, e3, e4, rs, rfl, k6, hrs, rfl, hdv⟩ := p
    have hd : L[k]? = some L[k] := List.getElem?_eq_getElem hk
    have wa := workV_at hd
    have ho := hLs _ (List.getElem_mem hk)
    generalize L[k] = d at hd wa ho
    unfold stepF
    simp only [bp1, bp2, ws_seq]
    by_cases h6 : k = 6
    · rw [if_pos h6] at wa
      have e6 : ((k : Int) == 6) = true := by rw [h6]; rfl
      simp only [e6, bp1, bp2]
      refine ⟨s3 _ (by decide), rfl, ?_⟩
      rw [tkS]
      rw [hdv, wa] at q; exact q
    · rw [if_neg h6] at wa
      have e6 : ((k : Int) == 6) = false := by rw [beq_eq_false_iff_ne]; omega
      simp only [e6, bp1, bp2]
      rw [v_ixI rfl hd]
      by_cases hs : ∃ s, d = .str s
      · obtain ⟨s, rfl⟩ := hs
        obtain ⟨l, rfl⟩ : ∃ l, s = SX.S l := ⟨_, (SX.S_tl s).symm⟩
        have hll : l.length + 2 ≤ 99999 := by
          cases ho with
          | str h => rw [tl_S] at h; exact h
        obtain ⟨w, ws, hw⟩ := words_cons l
        have lD : lineD (.str (SX.S l)) = if w = readC then (match pairsV ws with | .inl i => .inl (i + 1) | .inr xs => .inr xs) else .inl 0 := by
          show lineV _ = _
          unfold lineV
          rw [tl_S, hw] <;> rfl
        rw [lD] at wa
        rw [isi_str]
        simp only [bp1, bp2, ws_seq]
        rw [v_ixI rfl hd]
        simp only [splitB_ok (show l.length + 2 ≤ lim by unfold lim; omega), hw, bp1, bp2]
        rw [v_ix (k := 0) rfl at0]
        have ene : dNe (.str (SX.S w)) (.str ("read" : Str)) = fun s => .ok (.bl (!decide (w = readC))) s := by
          funext s
          show Res.ok (D.bl (!(SX.S w == ("read" : Str)))) s = _
          rw [read_]
          congr 3
          rw [Bool.eq_iff_iff, beq_iff_eq, decide_eq_true_iff]
          exact ⟨fun z => by have := congrArg (fun s : Str => s.cps.toList) z; simpa [tl_S] using this, fun z => by rw [z]⟩
        simp only [ene, bp1, bp2]
        by_cases hr : w = readC
        · rw [if_pos hr] at wa
          simp only [hr, decide_true, bp1, bp2]
          have sl : ∀ s, dSl (.lst (D.str (SX.S readC) :: ws.map fun p => .str (SX.S p))) (some 1) none s = .ok (.lst (ws.map fun p => .str (SX.S p))) s := fun s => by
            show Res.ok (D.lst (cutD _ _ _)) s = _
            rw [cut1]
          simp only [sl, bp1, bp2]
          have wl : ∀ v ∈ ws, v.length + 2 ≤ lim := fun v hv => by
            have : v ∈ wordsL l := by rw [hw]; exact List.mem_cons_of_mem _ hv
            have := words_small this
            unfold lim; omega
          have wsl : ws.length ≤ lim := by
            have := words_count l
            rw [hw, List.length_cons] at this
            unfold lim; omega
          refine lc_fn (f := pkD) (by rw [List.length_map]; exact wsl) (fun y hy => ⟨_, v_gname, ?_⟩) ?_
          · obtain ⟨v, hv, rfl⟩ := List.mem_map.mp hy
            simp only [bp1, bp2, ws_seq]
            rw [q_pair_of, pair_of_ok isWord_law (wl v hv), pkD_s]
            exact ⟨rfl, rfl⟩
          have em : (ws.map fun p => D.str (SX.S p)).map pkD = (ws.map pickV).map pairO := by
            rw [List.map_map, List.map_map]
            exact List.map_congr_left fun v _ => pkD_s
          rw [em]
          have wf : ∀ o ∈ ws.map pickV, WfO o := fun o ho => by
            obtain ⟨v, _, rfl⟩ := List.mem_map.mp ho; exact pick_wf v
          simp only [bp1, bp2, ws_seq, inP_none wf]
          cases hp : pairsV ws with
          | inl n =>
            rw [hp] at wa
            obtain ⟨v, h1, h2, h3⟩ := pairsV_bad hp
            have fi : (ws.map pickV).findIdx? Option.isNone = some n := by
              rw [List.findIdx?_eq_some_iff_getElem]
              have hn : n < ws.length := (List.getElem?_eq_some_iff.mp h1).1
              refine ⟨by rw [List.length_map]; exact hn, ?_, fun m hm => ?_⟩
              · rw [List.getElem_map]
                rw [(List.getElem?_eq_some_iff.mp h1).2, h2]; rfl
              · obtain ⟨u, z, a, b⟩ := h3 m hm
                rw [List.getElem_map, (List.getElem?_eq_some_iff.mp a).2, b]; simp
            have an : (ws.map pickV).any Option.isNone = true := List.any_eq_true.mpr ⟨none, by
              have := List.mem_map_of_mem (f := pickV) (List.mem_of_getElem? h1)
              rw [h2] at this; exact this, rfl⟩
            simp only [an, bp1, bp2, vl, indexP_none wf fi]
            refine ⟨s3 _ (by decide), rfl, ?_⟩
            rw [tkS]
            rw [hdv, wa] at q
            have : (1 : Int) + (n : Int) = ((n + 1 : Nat) : Int) := by omega
            rw [this]; exact q
          | inr xs =>
            rw [hp] at wa
            have pv := pairsV_ok hp
            have an : (ws.map pickV).any Option.isNone = false := by
              rw [pv, List.any_eq_false]
              intro o ho
              obtain ⟨z, _, rfl⟩ := List.mem_map.mp ho; simp
            have em2 : (ws.map pickV).map pairO = xs.map pairD := by
              rw [pv, List.map_map]; rfl
            have vlB : vl (st ++ [.lst (rs.map readD)]) (.box st.length) = some (rs.map readD) := by unfold vl; simp only [rdL]
            simp only [an, bp1, bp2, vlB, em2]
            have ap := app_ok (rdL (.lst (rs.map readD))) (x := readD xs) (by rw [List.length_map]; unfold lim; omega) (low_up _ (low_read xs))
            rw [stL] at ap
            show W (dAppend (.box st.length) [readD xs] _) _ _
            rw [ap]
            refine ⟨_, _, _, rs ++ [xs], rfl, by omega, by rw [List.length_append, hrs]; rfl, by rw [List.map_append]; rfl, ?_⟩
            rw [hdv, wa]
            simp only []
            rw [ahead_ahead]
        · rw [if_neg hr] at wa
          simp only [hr, decide_false, bp1, bp2]
          refine ⟨s3 _ (by decide), rfl, ?_⟩
          rw [tkS]
          rw [hdv, wa] at q; exact q
      · have hs' : ∀ s, d ≠ .str s := fun s e => hs ⟨s, e⟩
        have ld : lineD d = .inl 0 := by
          cases ho with
          | str _ => exact absurd rfl (hs' _)
          | _ => rfl
        rw [ld] at wa
        rw [not_str ho hs']
        simp only [bp1, bp2, ws_seq]
        refine ⟨s3 _ (by decide), rfl, ?_⟩
        rw [tkS]
        rw [hdv, wa] at q; exact q
  · obtain ⟨e2, e3, e4, rs, rfl, k6, hrs, rfl, hdv⟩ := p
    rw [workV_end (Nat.le_refl _)] at hdv
    have bt : bTuple [.box st.length] (st ++ [.lst (rs.map readD)]) = .ok (.tup (rs.map readD)) (st ++ [.lst (rs.map readD)]) := by
      unfold bTuple vw; simp only [rdL]
    simp only [bp1, bp2, ws_seq, bt]
    refine ⟨s3 _ (by decide), ?_, ?_⟩
    · show (true && (D.lows 0 _ && true)) = true
      rw [low_reads rs 0]; rfl
    · rw [tkS]
      rw [hdv] at q
      have q' : QD (dueD (.inr (rs ++ []))) st := q
      rw [List.append_nil] at q'
      exact q'
end
end Law
end
section
set_option Elab.async false
set_option linter.all false
set_option maxRecDepth 100000
set_option maxHeartbeats 1000000
namespace Law
open PySem L2 DL Draw
section
variable {QD : D → Store → Prop} {X : XQ} {st : Store} {i j k : Nat} {L : List D} {ln p : Int} {r : D}
theorem sz {n : Nat} (h : n ≤ 100) : n ≤ sizeLine := by rw [sizeLine_eq]; omega
theorem error_ok {y z : Nat} : m_law_error 3 [("word", .int z), ("line", .int y)] st = .ok (.tup [.str ("BadLine" : Str), .int y, .int z]) st := by
  have a : (("word" : Str) == ("word" : Str)) = true := by decide +kernel
  have b : (("line" : Str) == ("word" : Str)) = false := by decide +kernel
  have c : (("line" : Str) == ("line" : Str)) = true := by decide +kernel
  have h1 : ∀ env, mXis nC NX sX 3 3 [("word", .int z), ("line", .int y)] env st = .ok (.bl true) st := fun env => rfl
  have h2 : ∀ env, mXisV nC NX 3 [("word", .int z), ("line", .int y)] env st = .ok (.bl true) st := fun env => rfl
  have h3 : ∀ env, mXis nC NX sX 4 3 [("word", .int z), ("line", .int y)] env st = .ok (.bl false) st := fun env => rfl
  have h4 : ∀ env, mXis nC NX sX 2 3 [("word", .int z), ("line", .int y)] env st = .ok (.bl false) st := fun env => rfl
  have h5 : ∀ env, mXf nC NX lX ("line" : Str) 3 [("word", .int z), ("line", .int y)] env st = .ok (.int y) st := fun env => by
    unfold mXf
    rw [if_pos ⟨by decide, by decide, by decide +kernel⟩]
    simp only [List.lookup_cons, b, c]
  have h6 : ∀ env, mXf nC NX lX ("word" : Str) 3 [("word", .int z), ("line", .int y)] env st = .ok (.int z) st := fun env => by
    unfold mXf
    rw [if_pos ⟨by decide, by decide, by decide +kernel⟩]
    simp only [List.lookup_cons, a]
  have w : WS (b_law_error 3 [("word", .int z), ("line", .int y)] (List.replicate 1 none) st) { R := fun d s => d = .tup [.str ("BadLine" : Str), .int y, .int z] ∧ s = st } := by
    unfold b_law_error
    simp only [bp1, bp2, ws_seq, h1, h2, h3, h4, h5, h6]
    exact sz (by decide)
  unfold m_law_error mDefX
  cases e : b_law_error 3 [("word", .int z), ("line", .int y)] (List.replicate 1 none) st with
  | fl f s =>
    rw [e] at w
    cases f with
    | rt d => obtain ⟨rfl, rfl⟩ := w; rfl
    | _ => exact w.elim
  | exc _ _ _ _ => rw [e] at w; exact w.elim
  | stuck => rw [e] at w; exact w.elim
theorem pl_read (xs : Rdg) (h : xs.length ≤ 1000000) : Pl 2 (readD xs) := .tup (fun y hy => by
  obtain ⟨x, _, rfl⟩ := List.mem_map.mp hy
  exact .tup (fun z hz => by
    simp only [List.mem_cons, List.not_mem_nil, or_false] at hz
    rcases hz with rfl | rfl
    · exact .str _
    · exact .int _) (by show 2 ≤ _; decide)) (by rw [List.length_map]; exact h)
/-- none is too long -/
def Fit (v : (Nat × Nat) ⊕ List Rdg) : Prop := ∀ rs, v = .inr rs → rs.length ≤ 1000 ∧ ∀ xs ∈ rs, xs.length ≤ 1000000
theorem pl_due {v : (Nat × Nat) ⊕ List Rdg} (h : Fit v) : Pl 4 (dueD v) := by
  cases v with
  | inl e => exact .tup (fun z hz => by
      simp only [List.mem_cons, List.not_mem_nil, or_false] at hz
      rcases hz with rfl | rfl | rfl
      · exact .str _
      · exact .int _
      · exact .int _) (by show 3 ≤ _; decide)
  | inr rs =>
    obtain ⟨h1, h2⟩ := h rs rfl
    exact .tup (fun z hz => by
      simp only [List.mem_cons, List.not_mem_nil, or_false] at hz
      rcases hz with rfl | rfl
      · exact .str _
      · exact .tup (fun y hy => by
          obtain ⟨xs, hx, rfl⟩ := List.mem_map.mp hy
          exact pl_read xs (h2 xs hx)) (by rw [List.length_map]; omega)) (by show 2 ≤ _; decide)
theorem pairsV_len : ∀ {ws : List (List Nat)} {xs : Rdg}, pairsV ws = .inr xs → xs.length = ws.length := fun {ws xs} h => by
  have := congrArg List.length (pairsV_ok h)
  simpa using this.symm
theorem lineD_len {d : D} (ho : LineOk d) {xs : Rdg} (h : lineD d = .inr xs) : xs.length ≤ 1000000 := by
  cases ho with
  | @str s hs =>
    have h : lineV s.cps.toList = .inr xs := h
    unfold lineV at h
    have c := words_count s.cps.toList
    cases hw : wordsL s.cps.toList with
    | nil => rw [hw] at h; cases h
    | cons w ws =>
      rw [hw] at h c
      simp only [] at h
      split at h
      · cases hp : pairsV ws with
        | inl i => rw [hp] at h; cases h
        | inr ys =>
          rw [hp] at h; cases h
          rw [pairsV_len hp]
          rw [List.length_cons] at c; omega
      · cases h
  | _ => cases h
theorem fit_work : ∀ {k : Nat} {ds : List D}, (∀ d ∈ ds, LineOk d) → ds.length ≤ 1000 → Fit (workV k ds) ∧ ∀ rs, workV k ds = .inr rs → rs.length = ds.length
  | k, [], _, _ => ⟨fun rs e => by cases e; exact ⟨Nat.zero_le _, by simp⟩, fun rs e => by cases e; rfl⟩
  | k, d :: ds, h, hl => by
    have hl' : ds.length ≤ 1000 := by rw [List.length_cons] at hl; omega
    obtain ⟨i1, i2⟩ := fit_work (k := k + 1) (ds := ds) (fun x hx => h x (List.mem_cons_of_mem _ hx)) hl'
    unfold workV
    split
    · exact ⟨(fun rs e => by cases e), (fun rs e => by cases e)⟩
    · cases hd : lineD d with
      | inl w => exact ⟨(fun rs e => by cases e), (fun rs e => by cases e)⟩
      | inr xs =>
        simp only []
        cases hw : workV (k + 1) ds with
        | inl e => exact ⟨(fun rs e => by cases e), (fun rs e => by cases e)⟩
        | inr r =>
          obtain ⟨j1, j2⟩ := i1 r hw
          have j3 := i2 r hw
          refine ⟨fun rs e => ?_, fun rs e => ?_⟩
          · cases e
            exact ⟨by rw [List.length_cons, j3]; rw [List.length_cons] at hl; exact hl, fun ys hy => (List.mem_cons.mp hy).elim (fun z => z ▸ lineD_len (h d List.mem_cons_self) hd) (j2 ys)⟩
          · cases e; rw [List.length_cons, List.length_cons, j3]
theorem fit_due (h : ∀ d ∈ L, LineOk d) (hl : L.length ≤ 1000) : Fit (dueV L) := by
  cases L with
  | nil => intro rs e; cases e
  | cons d ds => exact (fit_work h hl).1
theorem same20 {k : Nat} {d : D} (h : Pl k d) (hk : k < 20) : m_law_same 20 [d, d] st = .ok (.bl true) st := by
  rw [q_same]
  have w : W (mRec 3 (bSame nC jC) 20 [d, d] st) (fun x s => x = .bl true ∧ s = st) X0 := same_w rfl h hk ⟨rfl, rfl⟩
  obtain ⟨a, s, e, rfl, rfl⟩ := W.get w
  exact e
theorem due_told (rs : List Rdg) : D.tup [.str ("told" : Str), .tup (rs.map readD)] = dueD (.inr rs) := rfl
theorem due_bad (y z : Nat) : D.tup [.str ("BadLine" : Str), .int y, .int z] = dueD (.inl (y, z)) := rfl
theorem asked_work_w {a : D} (ha : rowOf a = some L) (hl : L.length ≤ 1000) (hLs : ∀ d ∈ L, LineOk d) (q : QD (.bl true) st) : W (m_law_asked_work [a, dueD (dueV L)] st) QD X := by
  refine w_defL ?_
  unfold b_law_asked_work
  simp only [bp1, bp2, ws_seq, ws_try]
  have pd := pl_due (fit_due hLs hl)
  refine read_work_w ha hl hLs (fun rs e => ?_) fun y z e => ?_
  · refine ⟨sz (by decide), ?_⟩
    rw [e] at pd ⊢
    rw [due_told]
    rw [same20 pd (by decide), w_ok, List.take_length]; exact ⟨rfl, q⟩
  · refine ⟨⟨by decide, by decide, by decide⟩, fun _ => ?_, fun h => absurd h (by decide)⟩
    simp only [bp1, bp2, ws_seq, error_ok]
    rw [e] at pd ⊢
    rw [due_bad]
    rw [same20 pd (by decide), w_ok, List.take_length]; exact ⟨rfl, q⟩
end
end Law
end
section
set_option Elab.async false
set_option linter.all false
set_option maxRecDepth 100000
set_option maxHeartbeats 1000000
namespace Law
open PySem L2 DL Draw
section
variable {QD : D → Store → Prop} {X : XQ} {st : Store} {i j k : Nat} {L : List D} {ln p : Int} {r : D}
theorem law_read_ok (hl : L.length ≤ 1000) (hLs : ∀ d ∈ L, LineOk d) : m_law_read [.lst L] st = .ok (dueD (dueV L)) st := by
  have w : W (m_law_read [.lst L] st) (fun x s => x = dueD (dueV L) ∧ s = st) X0 := law_read_w hl hLs ⟨rfl, rfl⟩
  obtain ⟨a, s, e, rfl, rfl⟩ := W.get w
  exact e
theorem eq_lit {a b : Str} : dEq (.str a) (.str b) st = .ok (.bl (a == b)) st := rfl
theorem asked_line_w {d : D} (ho : LineOk d) (q : QD (.bl true) st) : W (m_law_asked_line [d]  st) QD X := by
  refine w_defL ?_
  unfold b_law_asked_line
  have e := law_read_ok (st := st) (L := [d]) (by show 1 ≤ 1000; decide) (fun x hx => by rw [List.mem_singleton.mp hx]; exact ho)
  simp only [bp1, bp2, ws_seq, e, ws_try]
  refine ⟨sz (by decide), ?_⟩
  have t1 : (("told" : Str) == ("told" : Str)) = true := by decide +kernel
  have t2 : (("BadLine" : Str) == ("told" : Str)) = false := by decide +kernel
  cases hd : lineD d with
  | inl w =>
    have dv : dueV [d] = .inl (0, w) := by
      show workV 0 [d] = _
      unfold workV
      rw [if_neg (by decide), hd]
    rw [dv]
    have d0 : dIx (dueD (.inl (0, w))) (.int 0) st = .ok (.str ("BadLine" : Str)) st := ix_row rfl at0
    simp only [bp1, bp2, ws_seq, d0, eq_lit, t2]
    refine read_reading_w ho (fun xs hx => by rw [hd] at hx; cases hx) fun v hv => ?_
    rw [hd] at hv
    cases hv
    refine ⟨⟨by decide, by decide, by decide⟩, fun _ => ?_, fun h => absurd h (by decide)⟩
    have er := error_ok (st := st) (y := 0) (z := w)
    have er' : m_law_error 3 [("word", .int w), ("line", .int 0)] st = .ok (.tup [.str ("BadLine" : Str), .int 0, .int w]) st := er
    simp only [bp1, bp2, ws_seq, er']
    rw [show D.tup [.str ("BadLine" : Str), .int 0, .int w] = dueD (.inl (0, w)) from rfl, same20 (pl_due (fun rs e => by cases e)) (by decide), w_ok, List.take_length]; exact ⟨rfl, q⟩
  | inr xs =>
    have dv : dueV [d] = .inr [xs] := by
      show workV 0 [d] = _
      unfold workV
      rw [if_neg (by decide), hd]; rfl
    rw [dv]
    have d0 : dIx (dueD (.inr [xs])) (.int 0) st = .ok (.str ("told" : Str)) st := ix_row rfl at0
    have d1 : dIx (dueD (.inr [xs])) (.int 1) st = .ok (.tup [readD xs]) st := ix_row rfl at1
    have d2 : dIx (.tup [readD xs]) (.int 0) st = .ok (readD xs) st := ix_row rfl at0
    simp only [bp1, bp2, ws_seq, d0, d1, d2, eq_lit, t1]
    refine ⟨sz (by decide), read_reading_w ho (fun ys hy => ?_) fun v hv => by rw [hd] at hv; cases hv⟩
    rw [hd] at hy
    cases hy
    refine ⟨sz (by decide), ?_⟩
    rw [same20 (k := 3) (.tup (fun z hz => by
      simp only [List.mem_cons, List.not_mem_nil, or_false] at hz
      rcases hz with rfl | rfl
      · exact .str _
      · exact pl_read xs (lineD_len ho hd)) (by show 2 ≤ _; decide)) (by decide), w_ok, List.take_length]
    exact ⟨rfl, q⟩
/-! the lines bent -/
/-- what words cost, joined -/
def cost (ps : List (List Nat)) : Nat := (ps.map fun p => p.length + 1).sum
theorem cost_app (a b : List (List Nat)) : cost (a ++ b) = cost a + cost b := by
  unfold cost; rw [List.map_append, List.sum_append]
theorem cost_take (a : List (List Nat)) (n : Nat) : cost (a.take n) + cost (a.drop n) = cost a := by
  rw [← cost_app, List.take_append_drop]
theorem cost_words : ∀ (n : Nat) (l : List Nat), l.length ≤ n → cost (wordsL l) = l.length + 1
  | n, l, hn => by
    cases hb : (brk 32 l).2 with
    | none => rw [words_one (brk_none hb).1]; unfold cost; simp
    | some r =>
      obtain ⟨h1, h2⟩ := brk_some hb
      have hl : l.length = (brk 32 l).1.length + (r.length + 1) := by
        conv => lhs; rw [h2]
        rw [List.length_append, List.length_cons]
      rw [words_more hb]
      match n with
      | 0 => omega
      | n + 1 =>
        have ih := cost_words n r (by omega)
        unfold cost at ih ⊢
        rw [List.map_cons, List.sum_cons, ih]; omega
theorem cost_len (ps : List (List Nat)) : (ps.map List.length).sum + ps.length = cost ps := by
  unfold cost
  induction ps with
  | nil => rfl
  | cons p ps ih => simp only [List.map_cons, List.sum_cons, List.length_cons] at ih ⊢; omega
theorem joinL_len : ∀ (ps : List (List Nat)), (TL.joinL [32] ps).length ≤ cost ps
  | [] => Nat.zero_le _
  | [p] => by
    show p.length ≤ cost [p]
    unfold cost; simp
  | p :: q :: r => by
    have ih := joinL_len (q :: r)
    show (p ++ ([32] ++ TL.joinL [32] (q :: r))).length ≤ _
    rw [List.length_append, List.length_append]
    have e : cost (p :: q :: r) = (p.length + 1) + cost (q :: r) := by unfold cost; rw [List.map_cons, List.sum_cons]
    rw [e]
    show p.length + (1 + _) ≤ _
    omega
/-- signs that a text can have -/
def Sig (l : List Nat) : Prop := ∀ c ∈ l, c < 1114112
theorem words_mem : ∀ (n : Nat) (l : List Nat), l.length ≤ n → ∀ w ∈ wordsL l, ∀ c ∈ w, c ∈ l
  | n, l, hn, w, hw, c, hc => by
    cases hb : (brk 32 l).2 with
    | none =>
      rw [words_one (brk_none hb).1] at hw
      rw [List.mem_singleton.mp hw] at hc; exact hc
    | some r =>
      obtain ⟨h1, h2⟩ := brk_some hb
      have hl : l.length = (brk 32 l).1.length + (r.length + 1) := by
        conv => lhs; rw [h2]
        rw [List.length_append, List.length_cons]
      rw [words_more hb] at hw
      rw [h2]
      match n with
      | 0 => omega
      | n + 1 =>
        rcases List.mem_cons.mp hw with rfl | hw
        · exact List.mem_append_left _ hc
        · exact List.mem_append_right _ (List.mem_cons_of_mem _ (words_mem n r (by omega) w hw c hc))
theorem joinL_sig : ∀ (ps : List (List Nat)), (∀ p ∈ ps, Sig p) → Sig (TL.joinL [32] ps)
  | [], _ => fun c hc => by cases hc
  | [p], h => h p List.mem_cons_self
  | p :: q :: r, h => fun c hc => by
    have ih := joinL_sig (q :: r) fun x hx => h x (List.mem_cons_of_mem _ hx)
    have hc : c ∈ p ++ ([32] ++ TL.joinL [32] (q :: r)) := hc
    rcases List.mem_append.mp hc with hc | hc
    · exact h p List.mem_cons_self c hc
    · rcases List.mem_append.mp hc with hc | hc
      · rw [List.mem_singleton.mp hc]; decide
      · exact ih c hc
abbrev txs (ps : List (List Nat)) : List D := ps.map fun p => .str (SX.S p)
theorem join_w {row : D} {b : Bool} {ps : List (List Nat)} (hv : vw st row = some (b, txs ps)) (hc : cost ps ≤ 900000) (q : QD (.str (SX.S (TL.joinL [32] ps))) st) : W (dJoin (.str (" " : Str)) row st) QD X := by
  have e : txs ps = (ps.map SX.S).map D.str := by rw [List.map_map]; rfl
  unfold dJoin
  simp only [hv]
  rw [e, strs_map]
  simp only []
  have hl : ((ps.map SX.S).map (·.length)).sum + (ps.map SX.S).length * (" " : Str).length ≤ lim := by
    have o : (" " : Str).length = 1 := by rw [blank, SX.S_len]; rfl
    rw [o, List.length_map, List.map_map]
    have : (ps.map ((fun z : Str => z.length) ∘ SX.S)) = ps.map List.length := List.map_congr_left fun p _ => SX.S_len p
    rw [this]
    have := cost_len ps
    unfold lim; omega
  rw [if_pos hl, blank, SX.join_S]
  exact q
/-- draws beside a list of one's own -/
theorem pickA_w {mo : MO} {n : Int} (s : SrcAt st i) (h0 : 0 < n) (h1 : n < 1000000) (q : ∀ k st', 0 ≤ k → k < n → Adv i st st' → QD (.int k) (st' ++ [mo])) : W (Draw.m_law_pick [.box i, .int n] (st ++ [mo])) QD X := by
  refine pick_w s.app h0 h1 fun k st' a b c => ?_
  obtain ⟨st2, rfl, ad⟩ := c.app s
  exact q k st2 a b ad
theorem one_inA_w {mo : MO} {n : Int} (s : SrcAt st i) (h0 : 0 < n) (h1 : n < 1000000) (q : ∀ b st', Adv i st st' → QD (.bl b) (st' ++ [mo])) : W (Draw.m_law_one_in [.box i, .int n] (st ++ [mo])) QD X := by
  refine one_in_w s.app h0 h1 fun b st' c => ?_
  obtain ⟨st2, rfl, ad⟩ := c.app s
  exact q b st2 ad
theorem one_ofA_w {mo : MO} {r : D} {ds : List D} (s : SrcAt st i) (hr : rowOf r = some ds) (h0 : ds ≠ []) (h1 : ds.length < 1000000) (hl : D.lows 0 ds = true) (q : ∀ x st', x ∈ ds → Adv i st st' → QD x (st' ++ [mo])) : W (Draw.m_law_one_of [.box i, r] (st ++ [mo])) QD X := by
  refine one_of_w s.app hr h0 h1 hl fun x st' hx c => ?_
  obtain ⟨st2, rfl, ad⟩ := c.app s
  exact q x st2 hx ad
theorem splitM_ok {l : List Nat} (h : l.length + 2 ≤ lim) : dSplitM (.str (SX.S l)) (.str (" " : Str)) st = .ok (.box st.length) (st ++ [.lst (txs (wordsL l))]) := by
  unfold dSplitM
  rw [blank]
  simp only []
  rw [if_pos ⟨rfl, by rw [SX.S_len]; exact h⟩, SX.split_S (by simp) (by decide), List.map_map]
  rfl
theorem vl_tp {a : D} {xs : List D} (ha : vl st a = some xs) : a.tp = a ∧ vw st a = some (true, xs) ∧ (∀ z, a ≠ .str z) ∧ (∀ z, a ≠ .int z) ∧ ∀ z, a ≠ .tup z := by
  cases a with
  | lst ds => cases ha; exact ⟨rfl, rfl, (fun z h => by cases h), (fun z h => by cases h), fun z h => by cases h⟩
  | box j =>
    refine ⟨rfl, ?_, (fun z h => by cases h), (fun z h => by cases h), fun z h => by cases h⟩
    have ha' : (match st[j]? with | some (.lst ds) => some ds | _ => none) = some xs := ha
    show (match st[j]? with | some (.lst ds) => some (true, ds) | _ => none) = some (true, xs)
    cases e : st[j]? with
    | none => rw [e] at ha'; cases ha'
    | some mo =>
      rw [e] at ha'
      cases mo with
      | lst ds => cases ha'; rfl
      | _ => cases ha'
  | _ => cases ha
theorem v_addL {a b : D} {xs ys : List D} (ha : vl st a = some xs) (hb : vl st b = some ys) (h : xs.length + ys.length ≤ lim) : dAdd a b st = .ok (.lst (xs ++ ys)) st := by
  obtain ⟨ta, _, a1, a2, a3⟩ := vl_tp ha
  obtain ⟨tb, _⟩ := vl_tp hb
  unfold dAdd
  rw [ta, tb]
  split
  · exact absurd rfl (a2 _)
  · exact absurd rfl (a1 _)
  · exact absurd rfl (a3 _)
  · simp only [ha, hb]; rw [if_pos h]
theorem v_slL {d : D} {ds : List D} {lo hi : Option Int} (h : vl st d = some ds) : dSl d lo hi st = .ok (.lst (cutD ds lo hi)) st := by
  obtain ⟨_, hv, a1, _⟩ := vl_tp h
  unfold dSl
  split
  · exact absurd rfl (a1 _)
  · rw [hv]
/-- the odd words -/
def oddL : List D := [.str ("" : Str), .str ("a:0" : Str), .str ("a:3" : Str), .str ("a:01" : Str), .str ("a:" : Str), .str (":1" : Str), .str ("a:1:2" : Str), .str ("a:b" : Str), .str ("a:+1" : Str), .str ("A" : Str), .str ("a1" : Str), .str ("abcdefghi" : Str)]
def oddM : List D := [.str ("abcdefgh:2" : Str), .str ("abcdefghi:1" : Str), .str ("*a" : Str), .str ("_" : Str), .str ("read" : Str), .str ("read:1" : Str), .str ("a:12" : Str), .str ("1" : Str), .str (":" : Str), .str ("a::1" : Str)]
def oddB (d : D) : Bool := match d with
  | .str s => decide (s.cps.toList.length ≤ 11) && s.cps.toList.all fun c => decide (c < 1114112)
  | _ => false
theorem odd_all : (oddL ++ oddM).all oddB = true := by decide +kernel
theorem odd_at {x : D} (h : x ∈ oddL ++ oddM) : ∃ w : List Nat, x = .str (SX.S w) ∧ w.length ≤ 11 ∧ Sig w := by
  have := List.all_eq_true.mp odd_all x h
  cases x with
  | str s =>
    obtain ⟨h1, h2⟩ := Bool.and_eq_true_iff.mp this
    exact ⟨s.cps.toList, by rw [SX.S_tl], of_decide_eq_true h1, fun c hc => of_decide_eq_true (List.all_eq_true.mp h2 c hc)⟩
  | _ => cases this
theorem bent_line_w {l : List Nat} {n : Nat} (s : SrcAt st i) (hl : l.length ≤ n) (hc : Sig l) (hn : n ≤ 50000) (q : ∀ l' st', l'.length ≤ n + 20 → Sig l' → Adv i st st' → QD (.str (SX.S l')) st') : W (m_law_bent_line [.box i, .str (SX.S l)] st) QD X := by
  refine w_defL ?_
  unfold b_law_bent_line
  have sp := splitM_ok (st := st) (l := l) (by unfold lim; omega)
  have rd : ∀ (s : Store) (u : MO), s.length = st.length → (s ++ [u])[st.length]? = some u := fun s u h => by rw [← h]; simp
  have cw := cost_words _ l (Nat.le_refl _)
  have cnt := words_count l
  have len1 : ∀ (s : Store), s.length = st.length → bLen [.box st.length] (s ++ [.lst (txs (wordsL l))]) = .ok (.int (wordsL l).length) (s ++ [.lst (txs (wordsL l))]) := fun s h => by
    rw [len_box (rd s _ h), List.length_map]
  -- the end
  have fin : ∀ (row : D) (b : Bool) (ps : List (List Nat)) (s1 s2 : Store) (x : Store), Adv i st s1 → s2 = s1 ++ x → vw s2 row = some (b, txs ps) → cost ps ≤ l.length + 14 → (∀ p ∈ ps, Sig p) → W (dJoin (.str (" " : Str)) row s2) (fun d s => D.low 0 d = true ∧ QD d (s.take st.length)) (fun c fs s => D.lowF 0 fs = true ∧ X c fs (s.take st.length)) := fun row b ps s1 s2 x ad e hv hc hsg => by
    subst e
    refine join_w hv (by omega) ⟨rfl, ?_⟩
    have ln := ad.len
    rw [← ln, List.take_left]
    exact q _ _ (by have := joinL_len ps; omega) (joinL_sig ps hsg) ad
  simp only [bp1, bp2, sp, len1 st rfl, q_pick, q_one_in, q_one_of]
  refine pickA_w s (by omega) (by omega) fun k s1 k0 k1 a1 => ?_
  refine ws_cut (M := fun env s => ∃ (k : Nat) (s1 : Store), env = [some (.box i), some (.str (SX.S l)), some (.box st.length), some (.int k), none, none, none] ∧ k ≤ (wordsL l).length ∧ s = s1 ++ [.lst (txs (wordsL l))] ∧ Adv i st s1) ?_ ?_
  · simp only [bp1, bp2, len1 s1 a1.len, decide_eq_true_eq, decide_eq_false_iff_not]
    refine ⟨fun h9 => one_inA_w (a1.src s) (by decide) (by decide) fun b s2 a2 => ⟨fun _ => ?_, fun _ => ?_⟩, fun h9 => ?_⟩
    · have a12 := a1.trans a2
      simp only [bp1, bp2, len1 s2 a12.len]
      refine pickA_w (a12.src s) (by decide) (by decide) fun z s3 z0 z1 a3 => ?_
      simp only [bp1, bp2]
      exact ⟨((wordsL l).length - z).toNat, s3, by rw [Int.toNat_of_nonneg (by omega)], by omega, rfl, a12.trans a3⟩
    · exact ⟨k.toNat, s2, by rw [Int.toNat_of_nonneg k0], by omega, rfl, a1.trans a2⟩
    · exact ⟨k.toNat, s1, by rw [Int.toNat_of_nonneg k0], by omega, rfl, a1⟩
  rintro env s' ⟨k, s1, rfl, k2, rfl, a1⟩
  simp only [bp1, bp2]
  rw [show (0 + 1 + 1 + 1 + 1 + 1 + 1 + 1 + 1 + 1 + 1 + 1 + 1 : Nat) = 12 from rfl]
  refine ⟨sz (by decide), sz (by decide), ?_⟩
  have ad := v_addL (st := s1 ++ [.lst (txs (wordsL l))]) (a := .lst oddL) (b := .lst oddM) rfl rfl (by unfold lim; decide)
  unfold oddL oddM at ad
  rw [ad]
  simp only [bp1, bp2]
  refine one_ofA_w (ds := oddL ++ oddM) (a1.src s) rfl (by unfold oddL; exact List.cons_ne_nil _ _) (by decide) rfl fun x s2 hx a2 => ?_
  obtain ⟨w, rfl, hw, hws⟩ := odd_at hx
  have a12 := a1.trans a2
  refine pickA_w (a12.src s) (by decide) (by decide) fun z s3 z0 z1 a3 => ?_
  have a13 := a12.trans a3
  have ln := a13.len
  refine ws_cut (M := fun env s => ∃ (row : D) (b : Bool) (ps : List (List Nat)) (s2 : Store) (x : Store), env[2]? = some (some row) ∧ Adv i st s2 ∧ s = s2 ++ x ∧ vw s row = some (b, txs ps) ∧ cost ps ≤ l.length + 14 ∧ ∀ p ∈ ps, Sig p) ?_ ?_
  · have vlB : vl (s3 ++ [.lst (txs (wordsL l))]) (.box st.length) = some (txs (wordsL l)) := by unfold vl; simp only [rd s3 _ ln]
    have vlB2 : ∀ u, vl (s3 ++ [.lst (txs (wordsL l)), u]) (.box st.length) = some (txs (wordsL l)) := fun u => by
      have : (s3 ++ [.lst (txs (wordsL l)), u])[st.length]? = some (.lst (txs (wordsL l))) := by rw [← ln, List.getElem?_append_right (Nat.le_refl _)]; simp
      unfold vl; simp only [this]
    have vlB3 : ∀ (u : MO) (ds : List D), u = .lst ds → vl (s3 ++ [.lst (txs (wordsL l)), u]) (.box (st.length + 1)) = some ds := fun u ds e => by
      have : (s3 ++ [.lst (txs (wordsL l)), u])[st.length + 1]? = some u := by rw [← ln, List.getElem?_append_right (by omega)]; simp
      subst e
      unfold vl; simp only [this]
    have sgW : ∀ p ∈ wordsL l, Sig p := fun p hp c hc' => hc c (words_mem _ l (Nat.le_refl _) p hp c hc')
    have sgT : ∀ n, ∀ p ∈ (wordsL l).take n, Sig p := fun n p hp => sgW p (List.mem_of_mem_take hp)
    have sgD : ∀ n, ∀ p ∈ (wordsL l).drop n, Sig p := fun n p hp => sgW p (List.mem_of_mem_drop hp)
    have sg1 : ∀ p ∈ [w], Sig p := fun p hp => by rw [List.mem_singleton.mp hp]; exact hws
    have sgA : ∀ {a b : List (List Nat)}, (∀ p ∈ a, Sig p) → (∀ p ∈ b, Sig p) → ∀ p ∈ a ++ b, Sig p := fun {a b} h1 h2 p hp => (List.mem_append.mp hp).elim (h1 p) (h2 p)
    have c0 : cost [w] ≤ 12 := by unfold cost; simp; omega
    have ct := cost_take (wordsL l) k
    have ct1 := cost_take (wordsL l) (k + 1)
    have tk : ∀ n, cutD (txs (wordsL l)) none (some ((n : Nat) : Int)) = txs ((wordsL l).take n) := fun n => by rw [cut_take]; exact List.map_take.symm
    have dp : ∀ n, cutD (txs (wordsL l)) (some ((n : Nat) : Int)) none = txs ((wordsL l).drop n) := fun n => by rw [cut_drop]; exact List.map_drop.symm
    have k1 : (k : Int) + 1 = ((k + 1 : Nat) : Int) := by omega
    have lens : ∀ (ps : List (List Nat)), cost ps ≤ 60000 → (txs ps).length ≤ 60000 := fun ps h => by
      rw [List.length_map]
      have := cost_len ps
      omega
    have okM : okLstM [.str (SX.S w)] (s3 ++ [.lst (txs (wordsL l))]) = .ok (.box (st.length + 1)) (s3 ++ [.lst (txs (wordsL l)), .lst (txs [w])]) := by
      unfold okLstM
      rw [if_pos ⟨sz (show 1 ≤ 100 by decide), rfl⟩]
      have : (s3 ++ [MO.lst (txs (wordsL l))]).length = st.length + 1 := by rw [List.length_append, ln]; rfl
      rw [this, List.append_assoc]; rfl
    simp only [bp1, bp2, beq_iff_eq, beq_eq_false_iff_ne, ne_eq]
    have L1 : (s3 ++ [MO.lst (txs (wordsL l))]).length = st.length + 1 := by rw [List.length_append, ln]; rfl
    have c12 : cost (wordsL l) ≤ 60000 := by omega
    have sl1 : dSl (.box st.length) none (some (k : Int)) (s3 ++ [.lst (txs (wordsL l))]) = .ok (.lst (txs ((wordsL l).take k))) (s3 ++ [.lst (txs (wordsL l))]) := by rw [v_slL vlB, tk]
    have sl2 : dSl (.box st.length) (some ((k : Int) + 1)) none (s3 ++ [.lst (txs (wordsL l))]) = .ok (.lst (txs ((wordsL l).drop (k + 1)))) (s3 ++ [.lst (txs (wordsL l))]) := by rw [k1, v_slL vlB, dp]
    have sl3 : ∀ u, dSl (.box st.length) (some ((k : Int) + 1)) none (s3 ++ [.lst (txs (wordsL l)), u]) = .ok (.lst (txs ((wordsL l).drop (k + 1)))) (s3 ++ [.lst (txs (wordsL l)), u]) := fun u => by rw [k1, v_slL (vlB2 u), dp]
    have txa : ∀ a b, txs a ++ txs b = txs (a ++ b) := fun a b => (List.map_append (f := fun p => D.str (SX.S p)) (l₁ := a) (l₂ := b)).symm
    have lw := lens (wordsL l) c12
    have lt := lens ((wordsL l).take k) (by omega)
    have ld := lens ((wordsL l).drop (k + 1)) (by omega)
    have l60 : ∀ a b : Nat, a ≤ 60000 → b ≤ 60000 → a + b ≤ lim := fun a b h1 h2 => by unfold lim; omega
    have e1 : (txs [w]) = [.str (SX.S w)] := rfl
    refine ⟨fun h => ?_, fun h0 => ⟨fun h => ?_, fun h1 => ⟨fun h => ?_, fun h2 => ?_⟩⟩⟩
    · simp only [vlB]
      have di : dInsert (.box st.length) [.int k, .str (SX.S w)] (s3 ++ [.lst (txs (wordsL l))]) = .ok .non (s3 ++ [.lst (txs ((wordsL l).take k ++ [w] ++ (wordsL l).drop k))]) := by
        unfold dInsert
        simp only [rd s3 _ ln]
        rw [if_pos ⟨by unfold lim; omega, rfl, by omega, by omega⟩, Int.toNat_natCast]
        have : (s3 ++ [MO.lst (txs (wordsL l))]).set st.length (.lst ((txs (wordsL l)).take k ++ [D.str (SX.S w)] ++ (txs (wordsL l)).drop k)) = s3 ++ [.lst ((txs (wordsL l)).take k ++ [D.str (SX.S w)] ++ (txs (wordsL l)).drop k)] := by
          rw [← ln, List.set_append_right _ _ (Nat.le_refl _)]; simp
        rw [this]
        rw [show (txs (wordsL l)).take k = txs ((wordsL l).take k) from List.map_take.symm, show (txs (wordsL l)).drop k = txs ((wordsL l).drop k) from List.map_drop.symm, ← e1, txa, txa]
      rw [di]
      refine ⟨_, true, (wordsL l).take k ++ [w] ++ (wordsL l).drop k, s3, _, rfl, a13, rfl, ?_, ?_, sgA (sgA (sgT _) sg1) (sgD _)⟩
      · unfold vw; simp only [rd s3 _ ln]
      · rw [cost_app, cost_app]; omega
    · simp only [sl1, sl2, bp1, bp2]
      rw [v_addL (xs := txs ((wordsL l).take k)) (ys := txs ((wordsL l).drop (k + 1))) rfl rfl (l60 _ _ lt ld), txa]
      refine ⟨_, true, _, s3, _, rfl, a13, rfl, rfl, ?_, sgA (sgT _) (sgD _)⟩
      have := cost_take ((wordsL l).drop k) 1
      rw [List.drop_drop] at this
      rw [cost_app]; omega
    · refine ⟨⟨sz (by decide), rfl⟩, ?_⟩
      rw [L1, List.append_assoc]
      show W (dAdd (.box st.length) (.box (st.length + 1)) (s3 ++ [.lst (txs (wordsL l)), .lst [.str (SX.S w)]])) _ _
      rw [v_addL (vlB2 _) (vlB3 _ _ rfl) (l60 _ _ lw (by show 1 ≤ 60000; decide)), ← e1, txa]
      refine ⟨_, true, _, s3, _, rfl, a13, rfl, rfl, ?_, sgA sgW sg1⟩
      rw [cost_app]; omega
    · simp only [sl1, bp1, bp2]
      refine ⟨⟨sz (by decide), rfl⟩, ?_⟩
      rw [L1, List.append_assoc]
      show W (dAdd (.lst (txs ((wordsL l).take k))) (.box (st.length + 1)) (s3 ++ [.lst (txs (wordsL l)), .lst [.str (SX.S w)]])) _ _
      rw [v_addL (xs := txs ((wordsL l).take k)) rfl (vlB3 _ _ rfl) (l60 _ _ lt (by show 1 ≤ 60000; decide)), ← e1, txa]
      simp only [sl3, bp1, bp2]
      have l3 := lens ((wordsL l).take k ++ [w]) (by rw [cost_app]; omega)
      rw [v_addL (xs := txs ((wordsL l).take k ++ [w])) (ys := txs ((wordsL l).drop (k + 1))) rfl rfl (l60 _ _ l3 ld), txa]
      refine ⟨_, true, _, s3, _, rfl, a13, rfl, rfl, ?_, sgA (sgA (sgT _) sg1) (sgD _)⟩
      have := cost_take ((wordsL l).drop k) 1
      rw [List.drop_drop] at this
      rw [cost_app, cost_app]; omega
  · rintro env s' ⟨row, b, ps, s2, x, h2, ad, rfl, hv, hco, hsg⟩
    simp only [bp1, bp2, h2]
    exact fin row b ps s2 _ x ad rfl hv hco hsg
end
end Law
end
section
set_option Elab.async false
set_option linter.all false
set_option maxRecDepth 100000
set_option maxHeartbeats 1000000
namespace Law
open PySem L2 DL Draw
section
variable {QD : D → Store → Prop} {X : XQ} {st : Store} {i j k : Nat} {L : List D} {ln p : Int} {r : D}
/-! things that are equal to themselves -/
def LayD (k : Nat) (d : D) : Prop := ∃ p, d.py = some p ∧ PyData.canLay0 p = true ∧ p.depth ≤ k ∧ PyData.eqv p p = true
theorem lay_str {k : Nat} {l : List Nat} (h : Sig l) : LayD k (.str (SX.S l)) := by
  refine ⟨.str (SX.S l), rfl, ?_, Nat.zero_le _, by simp [PyData.eqv]⟩
  show PyData.canLay0 (.str (SX.S l)) = true
  unfold PyData.canLay0 PyData.strOk
  rw [← Array.all_toList, tl_S, List.all_eq_true]
  exact fun c hc => decide_eq_true (h c hc)
theorem lay_int {k : Nat} (i : Int) : LayD k (.int i) := ⟨.int i, rfl, by simp [PyData.canLay0], Nat.zero_le _, by simp [PyData.eqv]⟩
theorem lay_all {k : Nat} : ∀ {ds : List D}, (∀ d ∈ ds, LayD k d) → ∃ ps, D.pys ds = some ps ∧ PyData.canLayAll0 ps = true ∧ PyData.depthAll ps ≤ k ∧ PyData.eqvAll ps ps = true
  | [], _ => ⟨[], rfl, by simp [PyData.canLayAll0], by simp [PyData.depthAll], by simp [PyData.eqvAll]⟩
  | d :: ds, h => by
    obtain ⟨p, h1, h2, h3, h4⟩ := h d List.mem_cons_self
    obtain ⟨ps, i1, i2, i3, i4⟩ := lay_all (ds := ds) fun x hx => h x (List.mem_cons_of_mem _ hx)
    refine ⟨p :: ps, ?_, by simp [PyData.canLayAll0, h2, i2], by simp only [PyData.depthAll]; omega, by simp [PyData.eqvAll, h4, i4]⟩
    show (D.py d).bind _ = _
    rw [h1, Option.bind_some, i1]; rfl
theorem lay_lst {k : Nat} {ds : List D} (h : ∀ d ∈ ds, LayD k d) : LayD (k + 1) (.lst ds) := by
  obtain ⟨ps, i1, i2, i3, i4⟩ := lay_all h
  refine ⟨.list ps, ?_, by simp [PyData.canLay0, i2], by simp only [PyData.depth]; omega, by simp [PyData.eqv, i4]⟩
  show (D.pys ds).map _ = _
  rw [i1]; rfl
theorem lay_tup {k : Nat} {ds : List D} (h : ∀ d ∈ ds, LayD k d) : LayD (k + 1) (.tup ds) := by
  obtain ⟨ps, i1, i2, i3, i4⟩ := lay_all h
  refine ⟨.tuple ps, ?_, by simp [PyData.canLay0, i2], by simp only [PyData.depth]; omega, by simp [PyData.eqv, i4]⟩
  show (D.pys ds).map _ = _
  rw [i1]; rfl
theorem eq_lst {k : Nat} {ds : List D} (h : ∀ d ∈ ds, LayD k d) (hk : k ≤ 60) (hl : D.lows 0 ds = true) : dEq (.lst ds) (.lst ds) st = .ok (.bl true) st := by
  obtain ⟨p, h1, h2, h3, h4⟩ := lay_lst h
  have f : fz 0 st (.lst ds) = .lst ds := fz0 (d := .lst ds) hl
  unfold dEq
  rw [f, h1]
  have e : dEqS (.lst ds) (.lst ds) = none := rfl
  rw [e]
  simp only []
  have sh : SeqAt.shaped p = true := by
    unfold SeqAt.shaped
    rw [Bool.and_eq_true]
    exact ⟨h2, decide_eq_true (by omega)⟩
  rw [sh, if_pos (show (true && true) = true from rfl), h4]
/-- a line of at most n signs, or another thing -/
def LineN (n : Nat) (d : D) : Prop := LineOk d ∧ (∀ s, d = .str s → s.cps.toList.length ≤ n ∧ Sig s.cps.toList) ∧ LayD 3 d
theorem LineN.up {n m : Nat} {d : D} (h : LineN n d) (hm : n ≤ m) : LineN m d := ⟨h.1, fun s e => ⟨Nat.le_trans (h.2.1 s e).1 hm, (h.2.1 s e).2⟩, h.2.2⟩
theorem lineN_str {n : Nat} {l : List Nat} (h : l.length ≤ n) (hs : Sig l) (hn : n ≤ 90000) : LineN n (.str (SX.S l)) := ⟨.str (by rw [tl_S]; omega), fun s e => by cases e; rw [tl_S]; exact ⟨h, hs⟩, lay_str hs⟩
def oddS : List D := [.str ("" : Str), .str (" " : Str), .str ("read" : Str), .str ("read " : Str), .str (" read" : Str), .str ("reads a" : Str), .str ("Read a" : Str), .str ("read a" : Str), .str ("read a:1" : Str), .str ("a" : Str)]
def oddT : List D := [.non, .int 0, .bl true, .tup [.str ("read" : Str), .str ("a" : Str)], .lst [.str ("read" : Str)]]
theorem oddS_all : oddS.all oddB = true := by decide +kernel
theorem oddS_at {n : Nat} {x : D} (h : x ∈ oddS) (hn : 11 ≤ n) (hn2 : n ≤ 90000) : LineN n x := by
  have := List.all_eq_true.mp oddS_all x h
  cases x with
  | str s =>
    obtain ⟨h1, h2⟩ := Bool.and_eq_true_iff.mp this
    have hs : s.cps.toList.length ≤ 11 := of_decide_eq_true h1
    have sg : Sig s.cps.toList := fun c hc => of_decide_eq_true (List.all_eq_true.mp h2 c hc)
    have := lay_str (k := 3) sg
    rw [SX.S_tl] at this
    exact ⟨.str (by omega), fun z e => by cases e; exact ⟨by omega, sg⟩, this⟩
  | _ => cases this
theorem sig_read : Sig readC := fun c hc => by
  unfold readC at hc
  simp only [List.mem_cons, List.not_mem_nil, or_false] at hc
  omega
theorem oddT_at {n : Nat} {x : D} (h : x ∈ oddT) : LineN n x := by
  unfold oddT at h
  simp only [List.mem_cons, List.not_mem_nil, or_false] at h
  rcases h with rfl | rfl | rfl | rfl | rfl
  · exact ⟨.non, (fun s e => by cases e), .none, rfl, by decide +kernel, Nat.zero_le _, by simp [PyData.eqv]⟩
  · exact ⟨.int _, (fun s e => by cases e), lay_int _⟩
  · exact ⟨.bl _, (fun s e => by cases e), .bool true, rfl, by decide +kernel, Nat.zero_le _, by simp [PyData.eqv]⟩
  · exact ⟨.tup rfl, (fun s e => by cases e), lay_tup (k := 2) fun d hd => by
      simp only [List.mem_cons, List.not_mem_nil, or_false] at hd
      rcases hd with rfl | rfl
      · rw [read_]; exact lay_str sig_read
      · rw [show ("a" : Str) = SX.S [97] by decide +kernel]; exact lay_str fun c hc => by rw [List.mem_singleton.mp hc]; decide⟩
  · exact ⟨.lst rfl, (fun s e => by cases e), lay_lst (k := 2) fun d hd => by
      rw [List.mem_singleton.mp hd, read_]; exact lay_str sig_read⟩
theorem low_lines (h : ∀ d ∈ L, LineOk d) : D.lows 0 L = true := lows_all fun d hd => (h d hd).low
theorem isi_strB {d : D} (h : LineOk d) : (∃ s, d = .str s ∧ isi1 nC jC d (.ty "str") st = .ok (.bl true) st) ∨ ((∀ s, d ≠ .str s) ∧ isi1 nC jC d (.ty "str") st = .ok (.bl false) st) := by
  by_cases hs : ∃ s, d = .str s
  · obtain ⟨s, rfl⟩ := hs
    exact .inl ⟨s, rfl, isi_str⟩
  · exact .inr ⟨fun s e => hs ⟨s, e⟩, not_str h fun s e => hs ⟨s, e⟩⟩
theorem bent_lines_w {n m : Nat} (s : SrcAt st i) (hL : ∀ d ∈ L, LineN n d) (hl : L.length ≤ m) (hm : m ≤ 900) (hn0 : 20 ≤ n) (hn : n ≤ 50000)
    (q : ∀ L' st', (∀ d ∈ L', LineN (n + 20) d) → L'.length ≤ m + 7 → Adv i st st' → QD (.lst L') st') : W (m_law_bent_lines [.box i, .lst L] st) QD X := by
  refine w_defL ?_
  unfold b_law_bent_lines
  simp only [bp1, bp2, ws_seq, q_pick, q_one_of, beq_iff_eq, beq_eq_false_iff_ne, ne_eq]
  have up : ∀ d ∈ L, LineN (n + 20) d := fun d hd => (hL d hd).up (by omega)
  have tkU : ∀ k, ∀ d ∈ L.take k, LineN (n + 20) d := fun k d hd => up d (List.mem_of_mem_take hd)
  have dpU : ∀ k, ∀ d ∈ L.drop k, LineN (n + 20) d := fun k d hd => up d (List.mem_of_mem_drop hd)
  have fin : ∀ (L' : List D) (s1 : Store), (∀ d ∈ L', LineN (n + 20) d) → L'.length ≤ m + 7 → Adv i st s1 → D.low 0 (.lst L') = true ∧ QD (.lst L') (s1.take st.length) := fun L' s1 h1 h2 ad =>
    ⟨low_lines fun d hd => (h1 d hd).1, by rw [ad.take]; exact q L' s1 h1 h2 ad⟩
  have sl : ∀ (ds : List D) (lo hi : Option Int) (s : Store), dSl (.lst ds) lo hi s = .ok (.lst (cutD ds lo hi)) s := fun ds lo hi s => v_slL rfl
  have ad : ∀ (a b : List D) (s : Store), a.length + b.length ≤ 5000 → dAdd (.lst a) (.lst b) s = .ok (.lst (a ++ b)) s := fun a b s h => v_addL rfl rfl (by unfold lim; omega)
  have app3 : ∀ (a b c : List D), (∀ d ∈ a, LineN (n + 20) d) → (∀ d ∈ b, LineN (n + 20) d) → (∀ d ∈ c, LineN (n + 20) d) → ∀ d ∈ a ++ b ++ c, LineN (n + 20) d := fun a b c h1 h2 h3 d hd => by
    rcases List.mem_append.mp hd with hd | hd
    · rcases List.mem_append.mp hd with hd | hd
      · exact h1 d hd
      · exact h2 d hd
    · exact h3 d hd
  refine pick_w s (by omega) (by omega) fun z s1 z0 z1 a1 => ?_
  obtain ⟨k, rfl⟩ := Int.eq_ofNat_of_zero_le z0
  have kl : k ≤ L.length := by omega
  have k1 : (k : Int) + 1 = ((k + 1 : Nat) : Int) := by omega
  refine pick_w (a1.src s) (by decide) (by decide) fun way s2 w0 w1 a2 => ?_
  have a12 := a1.trans a2
  have lt : (L.take k).length ≤ m := by rw [List.length_take]; omega
  have ld : ∀ k, (L.drop k).length ≤ m := fun k => by rw [List.length_drop]; omega
  simp only [bp1, bp2, beq_iff_eq, beq_eq_false_iff_ne, ne_eq, sl, cut_take, cut_drop, k1]
  refine ⟨fun h => ?_, fun h0 => ⟨fun h => ?_, fun h1 => ⟨fun h => ?_, fun h2 => ⟨fun h => ?_, fun h3 => ⟨fun h => ?_, fun h4 => ?_⟩⟩⟩⟩⟩
  · refine ⟨sz (by decide), sz (by decide), sz (by decide), sz (by decide), ?_⟩
    have e1 := ad oddS oddT s2 (by decide)
    unfold oddS oddT at e1
    rw [e1]
    simp only [bp1, bp2]
    have e2 := ad (oddS ++ oddT) L s2 (by
      have : (oddS ++ oddT).length = 15 := rfl
      omega)
    unfold oddS oddT at e2
    simp only [l_app, l_app0] at e2
    rw [e2]
    simp only [bp1, bp2, sl, cut_take, cut_drop]
    have all : ∀ d ∈ oddS ++ oddT ++ L, LineN (n + 20) d := app3 _ _ _ (fun d hd => oddS_at hd (by omega) (by omega)) (fun d hd => oddT_at hd) up
    refine one_of_w (ds := oddS ++ oddT ++ L) (a12.src s) rfl (by unfold oddS; exact List.cons_ne_nil _ _) (by
      have : (oddS ++ oddT).length = 15 := rfl
      rw [List.length_append]; omega) (low_lines fun d hd => (all d hd).1) fun x s3 hx a3 => ?_
    refine ⟨sz (by decide), ?_⟩
    rw [ad _ _ _ (by show _ + 1 ≤ 5000; omega)]
    simp only [bp1, bp2, sl, cut_take, cut_drop]
    rw [ad _ _ _ (by rw [List.length_append]; have := ld k; show _ + 1 + _ ≤ 5000; omega)]
    exact fin _ _ (app3 _ [x] _ (tkU k) (fun d hd => by rw [List.mem_singleton.mp hd]; exact all x hx) (dpU k)) (by rw [List.length_append, List.length_append, List.length_take, List.length_drop]; show _ + 1 + _ ≤ _; omega) (a12.trans a3)
  · rw [ad _ _ _ (by have := ld (k + 1); omega)]
    exact fin _ _ (fun d hd => (List.mem_append.mp hd).elim (tkU k d) (dpU (k + 1) d)) (by rw [List.length_append, List.length_take, List.length_drop]; omega) a12
  · refine ⟨sz (by decide), ?_⟩
    have rp : orO isL dRep dMul (.lst [D.str ("read" : Str)]) (.int 7) s2 = .ok (.lst (List.replicate 7 (.str ("read" : Str)))) s2 := rfl
    rw [rp]
    simp only [bp1, bp2]
    rw [ad _ _ _ (by show L.length + 7 ≤ 5000; omega)]
    simp only [bp1, bp2, sl]
    rw [show (some (7 : Int)) = some ((7 : Nat) : Int) from rfl, cut_take]
    refine fin _ _ (fun d hd => ?_) (by rw [List.length_take]; omega) a12
    rcases List.mem_append.mp (List.mem_of_mem_take hd) with hd | hd
    · exact up d hd
    · have hd' : d ∈ List.replicate 7 (D.str ("read" : Str)) := hd
      rw [(List.mem_replicate.mp hd').2, read_]; exact lineN_str (by show 4 ≤ _; omega) sig_read (by omega)
  · exact fin _ _ (tkU k) (by omega) a12
  · exact fin _ _ up (by omega) a12
  · have hk : k < L.length := by omega
    have hd : L[k]? = some L[k] := List.getElem?_eq_getElem hk
    have hk' := hL _ (List.getElem_mem hk)
    rw [v_ixI rfl hd]
    generalize L[k] = d at hd hk'
    rcases isi_strB (st := s2) hk'.1 with ⟨z, rfl, e⟩ | ⟨hs, e⟩
    · rw [e]
      simp only [bp1, bp2, sl, cut_take, cut_drop]
      rw [v_ixI rfl hd]
      obtain ⟨l, rfl⟩ : ∃ l, z = SX.S l := ⟨_, (SX.S_tl z).symm⟩
      have hl2 := hk'.2.1 _ rfl
      rw [tl_S] at hl2
      refine bent_line_w (a12.src s) hl2.1 hl2.2 hn fun l' s3 hl' hsl a3 => ?_
      refine ⟨sz (by decide), ?_⟩
      rw [ad _ _ _ (by show _ + 1 ≤ 5000; omega)]
      simp only [bp1, bp2, sl, cut_take, cut_drop]
      rw [ad _ _ _ (by rw [List.length_append]; have := ld (k + 1); show _ + 1 + _ ≤ 5000; omega)]
      exact fin _ _ (app3 _ [_] _ (tkU k) (fun d hd => by rw [List.mem_singleton.mp hd]; exact lineN_str hl' hsl (by omega)) (dpU (k + 1))) (by rw [List.length_append, List.length_append, List.length_take, List.length_drop]; show _ + 1 + _ ≤ _; omega) (a12.trans a3)
    · rw [e]
      simp only [bp1, bp2]
      exact fin _ _ up (by omega) a12
end
end Law
end
section
set_option Elab.async false
set_option linter.all false
set_option maxRecDepth 100000
set_option maxHeartbeats 1000000
namespace Law
open PySem L2 DL Draw
section
variable {QD : D → Store → Prop} {X : XQ} {st : Store} {i j k : Nat} {L : List D} {ln p : Int} {r : D}
/-! tuples as lists -/
mutual
def toL : D → D
  | .tup xs => .lst (toLs xs)
  | d => d
def toLs : List D → List D
  | [] => []
  | d :: ds => toL d :: toLs ds
end
theorem toLs_map : ∀ ds : List D, toLs ds = ds.map toL
  | [] => rfl
  | d :: ds => by
    show toL d :: toLs ds = _
    rw [toLs_map ds]; rfl
theorem isi_tup {d : D} {b : Bool} (h : ∀ a, tyD st d = some (.inl a) → kitB a "tuple" = some b) (h2 : ∃ a, tyD st d = some (.inl a)) : isi1 nC jC d (.ty "tuple") st = .ok (.bl b) st := by
  obtain ⟨a, e⟩ := h2
  exact isi_ok e (h a e)
theorem lists_ok : ∀ (k : Nat) (d : D), Pl k d → ∀ c, m_law_lists (k + c + 1) [d] st = .ok (toL d) st := by
  intro k
  have flat : ∀ (c : Nat) (d : D), toL d = d → d.low 0 = true → isi1 nC jC d (.ty "tuple") st = .ok (.bl false) st → m_law_lists (c + 1) [d] st = .ok (toL d) st := fun c d e hl h => by
    rw [e]
    show mDef 2 (b_law_lists (m_law_lists c)) [d] st = _
    refine d_low (s_ret (e_iff (e_test ?_) (e_var rfl))) hl rfl
    exact e_op (e_var rfl) e_c h
  have out : ∀ (c : Nat) (d : D) (a : String), toL d = d → d.low 0 = true → tyD st d = some (.inl a) → kitB a "tuple" = some false → m_law_lists (c + 1) [d] st = .ok (toL d) st := fun c d a h1 h2 h3 h4 => flat c d h1 h2 (isi_ok h3 h4)
  induction k with
  | zero =>
    intro d hd c
    cases hd with
    | non => exact out _ _ "NoneType" rfl rfl rfl (by decide +kernel)
    | bl b => exact out _ _ "bool" rfl rfl rfl (by decide +kernel)
    | int i => exact out _ _ "int" rfl rfl rfl (by decide +kernel)
    | str y => exact out _ _ "str" rfl rfl rfl (by decide +kernel)
  | succ k ih =>
    intro d hd c
    cases hd with
    | non => exact out _ _ "NoneType" rfl rfl rfl (by decide +kernel)
    | bl b => exact out _ _ "bool" rfl rfl rfl (by decide +kernel)
    | int i => exact out _ _ "int" rfl rfl rfl (by decide +kernel)
    | str y => exact out _ _ "str" rfl rfl rfl (by decide +kernel)
    | @tup _ xs h l =>
      have e : toL (.tup xs) = .lst (xs.map toL) := by
        show D.lst (toLs xs) = _
        rw [toLs_map]
      rw [e]
      have lows : D.lows 0 (xs.map toL) = true := by
        clear l e
        have key : ∀ (k : Nat) (d : D), Pl k d → (toL d).low 0 = true := by
          intro k
          induction k with
          | zero =>
            intro d hd
            cases hd <;> rfl
          | succ k ih =>
            intro d hd
            cases hd with
            | tup h l =>
              show D.lows 0 (toLs _) = true
              rw [toLs_map]
              exact lows_all fun y hy => by
                obtain ⟨x, hx, rfl⟩ := List.mem_map.mp hy
                exact ih x (h x hx)
            | _ => rfl
        exact lows_all fun y hy => by
          obtain ⟨x, hx, rfl⟩ := List.mem_map.mp hy
          exact key k x (h x hx)
      rw [show k + 1 + c + 1 = (k + c + 1) + 1 by omega]
      show mDef 2 (b_law_lists (m_law_lists (k + c + 1))) [.tup xs] st = _
      have t : mTest (mIsi1 nC jC (mVar 0) (mC (.ty "tuple"))) (startD 2 [.tup xs]) st = .ok true st := e_test (e_op (e_var rfl) e_c (isi_ok (a := "tuple") rfl (by decide +kernel)))
      refine d_low (s_ret (e_ift t (e_lc (e_any (e_var rfl) rfl) (by unfold lim; exact l) (lc_map (f := toL) fun x hx => ⟨_, rfl, e_call (e_cons (e_var rfl) e_nil) (ih x (h x hx) c)⟩)))) lows rfl
theorem lists20 {k : Nat} {d : D} (h : Pl k d) (hk : k < 20) : m_law_lists 20 [d] st = .ok (toL d) st := by
  obtain ⟨c, hc⟩ : ∃ c, 20 = k + c + 1 := ⟨19 - k, by omega⟩
  rw [hc]; exact lists_ok k d h c
/-! works -/
def chD (rs : List Rdg) : D := .tup (rs.map readD)
/-- a reading that can be sent -/
def GoodR (xs : Rdg) : Prop := (∀ x ∈ xs, isW x.1 = true ∧ x.2 ≤ 2) ∧ xs.length ≤ 1000
theorem word_codes {w : List Nat} (h : isW w = true) : 1 ≤ w.length ∧ w.length ≤ 8 ∧ ∀ c ∈ w, 97 ≤ c ∧ c ≤ 122 := by
  unfold isW at h
  simp only [Bool.and_eq_true, decide_eq_true_eq, List.all_eq_true, lowAz] at h
  exact ⟨h.1.1, h.1.2, h.2⟩
theorem GoodR.small {xs : Rdg} (h : GoodR xs) : SmallR xs := ⟨fun x hx => ⟨(word_codes (h.1 x hx).1).2.1, (h.1 x hx).2⟩, h.2⟩
theorem brk_free : ∀ {w : List Nat} {c : Nat}, c ∉ w → brk c w = (w, none)
  | [], c, _ => rfl
  | x :: w, c, h => by
    unfold brk
    rw [if_neg fun e => h (by rw [e]; exact List.mem_cons_self), brk_free fun m => h (List.mem_cons_of_mem _ m)]
theorem brk_at : ∀ {w r : List Nat} {c : Nat}, c ∉ w → brk c (w ++ c :: r) = (w, some r)
  | [], r, c, _ => by
    show brk c (c :: r) = _
    unfold brk; rw [if_pos rfl]
  | x :: w, r, c, h => by
    show brk c (x :: (w ++ c :: r)) = _
    unfold brk
    rw [if_neg fun e => h (by rw [e]; exact List.mem_cons_self), brk_at fun m => h (List.mem_cons_of_mem _ m)]
theorem pick_back {x : List Nat × Nat} (h1 : isW x.1 = true) (h2 : x.2 ≤ 2) : pickV (pickS x) = some x := by
  obtain ⟨w, n⟩ := x
  have h := (word_codes h1).2.2
  have f : 58 ∉ w := fun m => by have := h 58 m; omega
  simp only [] at h1 h2
  unfold pickS pickV
  by_cases hn : n = 0
  · subst hn
    simp only [if_true, List.append_nil, brk_free f, h1]
  · simp only [hn, if_false, brk_at f, h1, if_true]
    have : n = 1 ∨ n = 2 := by omega
    rcases this with rfl | rfl <;> rfl
theorem pairs_back : ∀ {xs : Rdg}, (∀ x ∈ xs, isW x.1 = true ∧ x.2 ≤ 2) → pairsV (xs.map pickS) = .inr xs
  | [], _ => rfl
  | x :: xs, h => by
    rw [List.map_cons]
    unfold pairsV
    rw [pick_back (h x List.mem_cons_self).1 (h x List.mem_cons_self).2, pairs_back fun y hy => h y (List.mem_cons_of_mem _ hy)]
theorem pickS_codes {x : List Nat × Nat} (h1 : isW x.1 = true) (h2 : x.2 ≤ 2) : ∀ c ∈ pickS x, c ≠ 32 ∧ c < 1114112 := fun c hc => by
  have h := (word_codes h1).2.2
  unfold pickS at hc
  rcases List.mem_append.mp hc with hc | hc
  · have := h c hc; omega
  · split at hc
    · cases hc
    · simp only [List.mem_cons, List.not_mem_nil, or_false] at hc
      omega
theorem line_back {xs : Rdg} (h : GoodR xs) : lineV (readL xs) = .inr xs := by
  have hw : wordsL (readL xs) = readC :: xs.map pickS := by
    unfold readL
    refine words_join (List.cons_ne_nil _ _) fun p hp => ?_
    rcases List.mem_cons.mp hp with rfl | hp
    · decide
    · obtain ⟨x, hx, rfl⟩ := List.mem_map.mp hp
      exact fun m => (pickS_codes (h.1 x hx).1 (h.1 x hx).2 32 m).1 rfl
  unfold lineV
  rw [hw]
  simp only [if_true, pairs_back h.1]
theorem readL_len {xs : Rdg} (h : GoodR xs) (hl : xs.length ≤ 100) : (readL xs).length ≤ 1200 := by
  unfold readL
  have := joinL_len (readC :: xs.map pickS)
  have c : ∀ ys : Rdg, (∀ y ∈ ys, SmallP y) → cost (ys.map pickS) ≤ 11 * ys.length := fun ys hy => by
    induction ys with
    | nil => exact Nat.zero_le _
    | cons y ys ih =>
      have a := pickS_len (hy y List.mem_cons_self)
      have b := ih fun z hz => hy z (List.mem_cons_of_mem _ hz)
      unfold cost at b ⊢
      rw [List.map_cons, List.map_cons, List.sum_cons, List.length_cons]; omega
  have e : cost (readC :: xs.map pickS) = 5 + cost (xs.map pickS) := by unfold cost; rw [List.map_cons, List.sum_cons]; rfl
  have := c xs h.small.1
  omega
theorem readL_sig {xs : Rdg} (h : GoodR xs) : Sig (readL xs) := joinL_sig _ fun p hp => by
  rcases List.mem_cons.mp hp with rfl | hp
  · exact sig_read
  · obtain ⟨x, hx, rfl⟩ := List.mem_map.mp hp
    exact fun c hc => (pickS_codes (h.1 x hx).1 (h.1 x hx).2 c hc).2
theorem lines_good {rs : List Rdg} (h : ∀ xs ∈ rs, GoodR xs ∧ xs.length ≤ 100) : ∀ d ∈ linesD rs, LineN 1200 d := fun d hd => by
  obtain ⟨xs, hx, rfl⟩ := List.mem_map.mp hd
  exact lineN_str (readL_len (h xs hx).1 (h xs hx).2) (readL_sig (h xs hx).1) (by decide)
theorem lineD_back {xs : Rdg} (h : GoodR xs) : lineD (.str (SX.S (readL xs))) = .inr xs := by
  show lineV _ = _
  rw [tl_S]; exact line_back h
theorem work_back : ∀ {k : Nat} {rs : List Rdg}, (∀ xs ∈ rs, GoodR xs) → k + rs.length ≤ 6 → workV k (linesD rs) = .inr rs
  | k, [], _, _ => rfl
  | k, xs :: rs, h, hk => by
    show workV k (.str (SX.S (readL xs)) :: linesD rs) = _
    rw [List.length_cons] at hk
    unfold workV
    rw [if_neg (by omega), lineD_back (h xs List.mem_cons_self)]
    simp only []
    rw [work_back (fun y hy => h y (List.mem_cons_of_mem _ hy)) (by omega)]
end
end Law
end
section
set_option Elab.async false
set_option linter.all false
set_option maxRecDepth 100000
set_option maxHeartbeats 1000000
namespace Law
open PySem L2 DL Draw
section
variable {QD : D → Store → Prop} {X : XQ} {st : Store} {i j k : Nat} {L : List D} {ln p : Int} {r : D}
theorem pairsR_t : ∀ xs : Rdg, PairsR (xs.map pairD) xs
  | [] => trivial
  | x :: xs => ⟨rfl, pairsR_t xs⟩
theorem pairsR_l : ∀ xs : Rdg, PairsR ((xs.map pairD).map toL) xs
  | [] => trivial
  | x :: xs => ⟨rfl, pairsR_l xs⟩
theorem readsR_t : ∀ rs : List Rdg, ReadsR (rs.map readD) rs
  | [] => trivial
  | xs :: rs => ⟨⟨_, rfl, pairsR_t xs⟩, readsR_t rs⟩
theorem readsR_l : ∀ rs : List Rdg, ReadsR ((rs.map readD).map toL) rs
  | [] => trivial
  | xs :: rs => ⟨⟨toLs (xs.map pairD), rfl, by rw [toLs_map]; exact pairsR_l xs⟩, readsR_l rs⟩
theorem readsR_get : ∀ {ds : List D} {rs : List Rdg}, ReadsR ds rs → ∀ {k : Nat} {xs : Rdg}, rs[k]? = some xs → ∃ d, ds[k]? = some d ∧ ReadR d xs
  | [], [], _, k, xs, h => by cases h
  | d :: ds, x :: rs, hr, 0, xs, h => by cases h; exact ⟨d, rfl, hr.1⟩
  | d :: ds, x :: rs, hr, k + 1, xs, h => readsR_get (ds := ds) (rs := rs) hr.2 (k := k) h
  | [], _ :: _, h, _, _, _ => h.elim
  | _ :: _, [], h, _, _, _ => h.elim
theorem pl_ch {rs : List Rdg} (h : ∀ xs ∈ rs, xs.length ≤ 1000000) (hl : rs.length ≤ 1000) : Pl 3 (chD rs) := .tup (fun y hy => by
  obtain ⟨xs, hx, rfl⟩ := List.mem_map.mp hy
  exact pl_read xs (h xs hx)) (by rw [List.length_map]; omega)
theorem lay_toL {rs : List Rdg} (h : ∀ xs ∈ rs, GoodR xs) : ∀ d ∈ (rs.map readD).map toL, LayD 2 d := fun d hd => by
  obtain ⟨y, hy, rfl⟩ := List.mem_map.mp hd
  obtain ⟨xs, hx, rfl⟩ := List.mem_map.mp hy
  show LayD 2 (.lst (toLs (xs.map pairD)))
  rw [toLs_map]
  refine lay_lst (k := 1) fun z hz => ?_
  obtain ⟨u, hu, rfl⟩ := List.mem_map.mp hz
  obtain ⟨x, hx2, rfl⟩ := List.mem_map.mp hu
  show LayD 1 (.lst [.str (SX.S x.1), .int x.2])
  refine lay_lst (k := 0) fun v hv => ?_
  simp only [List.mem_cons, List.not_mem_nil, or_false] at hv
  rcases hv with rfl | rfl
  · exact lay_str fun c hc => by have := (word_codes ((h xs hx).1 x hx2).1).2.2 c hc; omega
  · exact lay_int _
theorem low_toL {rs : List Rdg} : D.lows 0 ((rs.map readD).map toL) = true := lows_all fun d hd => by
  obtain ⟨y, hy, rfl⟩ := List.mem_map.mp hd
  obtain ⟨xs, hx, rfl⟩ := List.mem_map.mp hy
  show D.lows 0 (toLs (xs.map pairD)) = true
  rw [toLs_map]
  exact lows_all fun z hz => by
    obtain ⟨u, hu, rfl⟩ := List.mem_map.mp hz
    obtain ⟨x, hx2, rfl⟩ := List.mem_map.mp hu
    rfl
theorem reading_line_eq {d : D} {xs : Rdg} (hr : ReadR d xs) (hg : GoodR xs) : m_law_reading_line [d] st = .ok (.str (SX.S (readL xs))) st := by
  obtain ⟨ds, h1, h2⟩ := hr
  rw [q_reading_line]; exact reading_line_ok h1 h2 hg.small.1 hg.2
theorem write_reading_eq {d : D} {xs : Rdg} (hr : ReadR d xs) (hg : GoodR xs) : m_write_reading [d] st = .ok (.str (SX.S (readL xs))) st := by
  rw [q_write_reading]; exact write_reading_r d xs st hr hg.small
theorem write_work_eq {r : D} {ds : List D} {rs : List Rdg} (hr : rowOf r = some ds) (hp : ReadsR ds rs) (hs : ∀ xs ∈ rs, GoodR xs) (hl : rs.length ≤ 1000) : m_write_work [r] st = .ok (.tup (linesD rs)) st := by
  rw [q_write_work]
  exact write_work_ok (fun d xs q h1 h2 => by rw [q_write_reading]; exact write_reading_r d xs q h1 h2) hr hp (fun xs hx => (hs xs hx).small) (by unfold lim; omega)
theorem read_reading_eq {xs : Rdg} (hg : GoodR xs) (hl : xs.length ≤ 100) : m_read_reading [.str (SX.S (readL xs))] st = .ok (readD xs) st := by
  have ln := lines_good (rs := [xs]) (fun y hy => by rw [List.mem_singleton.mp hy]; exact ⟨hg, hl⟩) _ List.mem_cons_self
  have w : W (m_read_reading [.str (SX.S (readL xs))] st) (fun x s => x = readD xs ∧ s = st) X0 := read_reading_w ln.1 (fun ys e => by rw [lineD_back hg] at e; cases e; exact ⟨rfl, rfl⟩) fun v e => by rw [lineD_back hg] at e; cases e
  obtain ⟨a, s, e, rfl, rfl⟩ := W.get w
  exact e
theorem asked_back {a : D} {rs : List Rdg} (ha : rowOf a = some (linesD rs)) (hg : ∀ xs ∈ rs, GoodR xs ∧ xs.length ≤ 100) (h1 : rs ≠ []) (h6 : rs.length ≤ 6) : m_law_asked_work [a, .tup [.str ("told" : Str), chD rs]] st = .ok (.bl true) st := by
  have ln := lines_good hg
  have lne : linesD rs ≠ [] := fun e => h1 (by
    have := congrArg List.length e
    unfold linesD at this
    rw [List.length_map] at this
    exact List.length_eq_zero_iff.mp this)
  have dv : dueV (linesD rs) = .inr rs := by
    rw [dueV_eq lne, List.drop_zero]; exact work_back (fun xs hx => (hg xs hx).1) (by omega)
  have w : W (m_law_asked_work [a, dueD (dueV (linesD rs))] st) (fun x s => x = .bl true ∧ s = st) X0 := asked_work_w ha (by unfold linesD; rw [List.length_map]; omega) (fun d hd => (ln d hd).1) ⟨rfl, rfl⟩
  rw [dv] at w
  obtain ⟨a, s, e, rfl, rfl⟩ := W.get w
  exact e
theorem there_w {rs : List Rdg} {f : Int} (hf : f = 0 ∨ f = 1) (hg : ∀ xs ∈ rs, GoodR xs ∧ xs.length ≤ 100) (h1 : rs ≠ []) (h6 : rs.length ≤ 6) (q : QD (.bl true) st) : W (m_law_there_and_back [chD rs, .int f] st) QD X := by
  refine w_defL ?_
  unfold b_law_there_and_back
  have hg' : ∀ xs ∈ rs, GoodR xs := fun xs hx => (hg xs hx).1
  have pc : Pl 3 (chD rs) := pl_ch (fun xs hx => by have := (hg xs hx).2; omega) (by omega)
  -- what is passed
  obtain ⟨pa, ds, hpa, hds, hpe⟩ : ∃ (pa : D) (ds : List D), rowOf pa = some ds ∧ ReadsR ds rs ∧ pa = (if f = 1 then toL (chD rs) else chD rs) := by
    rcases hf with rfl | rfl
    · exact ⟨chD rs, rs.map readD, rfl, readsR_t rs, by rw [if_neg (by decide)]⟩
    · exact ⟨toL (chD rs), (rs.map readD).map toL, by show some (toLs _) = _; rw [toLs_map], readsR_l rs, by rw [if_pos rfl]⟩
  have same1 : ∀ {d : D}, Pl 2 d → m_law_same 20 [d, d] st = .ok (.bl true) st := fun h => same20 h (by decide)
  have plL : Pl 2 (.tup (linesD rs)) := .tup (fun y hy => by
    obtain ⟨xs, hx, rfl⟩ := List.mem_map.mp hy; exact .str _) (by unfold linesD; rw [List.length_map]; omega)
  have src : ∀ s, srcOf (chD rs) s = .ok (.fix (rs.map readD)) s := fun s => rfl
  have lc : ∀ (s : Store), lcSrc (gvName 5) mYes (mCall m_law_reading_line (mCons (mVar 5) mNil)) (.fix (rs.map readD)) [some (chD rs), some (.int f), none, none, none, none] s = .ok (linesD rs) s := fun s => by
    unfold lcSrc
    simp only []
    rw [if_pos (by rw [List.length_map]; unfold lim; omega)]
    have key : ∀ {ds : List D} {ys : List Rdg}, ReadsR ds ys → (∀ xs ∈ ys, GoodR xs) → lcGo (gvName 5) mYes (mCall m_law_reading_line (mCons (mVar 5) mNil)) ds [some (chD rs), some (.int f), none, none, none, none] s = .ok (linesD ys) s := by
      intro ds
      induction ds with
      | nil => intro ys h _; cases ys with | nil => rfl | cons _ _ => exact h.elim
      | cons d ds ih =>
        intro ys h hg
        cases ys with
        | nil => exact h.elim
        | cons x ys =>
          have e := reading_line_eq (st := s) h.1 (hg x List.mem_cons_self)
          have ih' := ih h.2 fun y hy => hg y (List.mem_cons_of_mem _ hy)
          unfold lcGo
          simp only [gvName, mYes, Res.nox, Res.bind, if_true]
          rw [e_call (e_cons (e_var rfl) e_nil) e]
          simp only [ih']
          rfl
    exact key (readsR_t rs) hg'
  have ls := lists20 (st := st) pc (by decide)
  obtain ⟨b, hb⟩ : ∃ b, (f == 1) = b := ⟨_, rfl⟩
  have pa1 : b = true → pa = toL (chD rs) := fun h => by
    rw [hpe, if_pos (by rw [h] at hb; simpa using hb)]
  have pa0 : b = false → pa = chD rs := fun h => by
    rw [hpe, if_neg (by rw [h] at hb; simpa using hb)]
  have ww := write_work_eq (st := st) hpa hds hg' (by omega)
  have sL := same20 (st := st) plL (by decide)
  have gx : ∀ {k : Nat}, k < rs.length → ∃ xs d, rs[k]? = some xs ∧ GoodR xs ∧ xs.length ≤ 100 ∧ ds[k]? = some d ∧ ReadR d xs ∧ (linesD rs)[k]? = some (.str (SX.S (readL xs))) ∧ (rs.map readD)[k]? = some (readD xs) := fun {k} hk => by
    have e : rs[k]? = some rs[k] := List.getElem?_eq_getElem hk
    obtain ⟨d, h1, h2⟩ := readsR_get hds e
    have m := hg _ (List.getElem_mem hk)
    exact ⟨rs[k], d, e, m.1, m.2, h1, h2, by unfold linesD; rw [List.getElem?_map, e]; rfl, by rw [List.getElem?_map, e]; rfl⟩
  refine ws_cut (M := fun env s => env = [some (chD rs), some (.int f), some (.lst (linesD rs)), none, none, none] ∧ s = st) ?_ ?_
  · simp only [bp1, bp2, src, lc]

  rintro env s ⟨rfl, es⟩
  rw [es]
  clear es s
  refine ws_cut (M := fun env s => env = [some (chD rs), some (.int f), some (.lst (linesD rs)), some pa, none, none] ∧ s = st) ?_ ?_
  · simp only [bp1, bp2, ls, hb]
    cases b with
    | true => simp only [bp1, bp2]; rw [pa1 rfl]
    | false => simp only [bp1, bp2]; rw [pa0 rfl]
  rintro env s ⟨rfl, es⟩
  rw [es]
  clear es s
  simp only [bp1, bp2, ws_seq, ww, sL]
  rw [v_len (d := chD rs) (ds := rs.map readD) rfl, List.length_map]
  rw [v_rng1 (by omega)]
  simp only [bp1, bp2, ws_seq]
  refine ws_range (P := fun k env s => ∃ e4, env = [some (chD rs), some (.int f), some (.lst (linesD rs)), some pa, e4, none] ∧ s = st) ⟨none, rfl, rfl⟩ (fun k env s hk p => ?_) fun env s p => ?_
  · obtain ⟨e4, rfl, rfl⟩ := p
    obtain ⟨xs, d, g1, g2, g3, g4, g5, g6, g7⟩ := gx hk
    unfold stepF
    simp only [bp1, bp2, ws_seq]
    rw [v_ixI hpa g4]
    simp only [bp1, bp2, write_reading_eq g5 g2]
    rw [v_ixI rfl g6]
    rw [same20 (k := 0) (.str _) (by decide)]
    simp only [bp1, bp2]
    rw [v_ixI rfl g6]
    rw [read_reading_eq g2 g3]
    simp only [bp1, bp2]
    rw [v_ixI (d := chD rs) rfl g7]
    rw [same20 (pl_read xs (by omega)) (by decide)]
    simp only [bp1, bp2]
    exact ⟨_, rfl⟩
  · obtain ⟨e4, rfl, rfl⟩ := p
    simp only [bp1, bp2, ws_seq, hb]
    cases b with
    | true =>
      simp only [bp1, bp2]
      refine ⟨sz (by decide), ?_⟩
      rw [asked_back (a := .tup (linesD rs)) rfl hg h1 h6]
      simp only [bp1, bp2, ls]
      rw [pa1 rfl]
      have el : toL (chD rs) = .lst ((rs.map readD).map toL) := by
        show D.lst (toLs _) = _
        rw [toLs_map]
      rw [el, eq_lst (lay_toL hg') (by decide) low_toL]
      exact ⟨rfl, by rw [List.take_length]; exact q⟩
    | false =>
      simp only [bp1, bp2]
      refine ⟨sz (by decide), ?_⟩
      rw [asked_back (a := .lst (linesD rs)) rfl hg h1 h6]
      simp only [bp1, bp2]
      exact ⟨rfl, by rw [List.take_length]; exact q⟩
end
end Law
end
section
set_option Elab.async false
set_option linter.all false
set_option maxRecDepth 100000
set_option maxHeartbeats 1000000
namespace Law
open PySem L2 DL Draw
section
variable {QD : D → Store → Prop} {X : XQ} {st : Store} {i j k : Nat} {L : List D} {ln p : Int} {r : D}
theorem list_lst {ds : List D} : bList [.lst ds] st = .ok (.lst ds) st := rfl
theorem tru_lst {ds : List D} : truD st (.lst ds) = some (!ds.isEmpty) := rfl
theorem there_eq {rs : List Rdg} {f : Int} (hf : f = 0 ∨ f = 1) (hg : ∀ xs ∈ rs, GoodR xs ∧ xs.length ≤ 100) (h1 : rs ≠ []) (h6 : rs.length ≤ 6) : m_law_there_and_back [chD rs, .int f] st = .ok (.bl true) st := by
  have w : W (m_law_there_and_back [chD rs, .int f] st) (fun x s => x = .bl true ∧ s = st) X0 := there_w hf hg h1 h6 ⟨rfl, rfl⟩
  obtain ⟨a, s, e, rfl, rfl⟩ := W.get w
  exact e
theorem asked_eq {a : D} (ha : rowOf a = some L) (hl : L.length ≤ 1000) (hLs : ∀ d ∈ L, LineOk d) : m_law_asked_work [a, dueD (dueV L)] st = .ok (.bl true) st := by
  have w : W (m_law_asked_work [a, dueD (dueV L)] st) (fun x s => x = .bl true ∧ s = st) X0 := asked_work_w ha hl hLs ⟨rfl, rfl⟩
  obtain ⟨a, s, e, rfl, rfl⟩ := W.get w
  exact e
theorem askline_eq {d : D} (ho : LineOk d) : m_law_asked_line [d] st = .ok (.bl true) st := by
  have w : W (m_law_asked_line [d] st) (fun x s => x = .bl true ∧ s = st) X0 := asked_line_w ho ⟨rfl, rfl⟩
  obtain ⟨a, s, e, rfl, rfl⟩ := W.get w
  exact e
theorem lines_lc {env : DEnv} {n : Nat} {rs : List Rdg} (hn : n < env.length) (hg : ∀ xs ∈ rs, GoodR xs) (hl : rs.length ≤ 1000) : lcSrc (gvName n) mYes (mCall m_law_reading_line (mCons (mVar n) mNil)) (.fix (rs.map readD)) env st = .ok (linesD rs) st := by
  unfold lcSrc
  simp only []
  rw [if_pos (by rw [List.length_map]; unfold lim; omega)]
  have key : ∀ {ds : List D} {ys : List Rdg}, ReadsR ds ys → (∀ xs ∈ ys, GoodR xs) → lcGo (gvName n) mYes (mCall m_law_reading_line (mCons (mVar n) mNil)) ds env st = .ok (linesD ys) st := by
    intro ds
    induction ds with
    | nil => intro ys h _; cases ys with | nil => rfl | cons _ _ => exact h.elim
    | cons d ds ih =>
      intro ys h hg
      cases ys with
      | nil => exact h.elim
      | cons x ys =>
        have e := reading_line_eq (st := st) h.1 (hg x List.mem_cons_self)
        have ih' := ih h.2 fun y hy => hg y (List.mem_cons_of_mem _ hy)
        unfold lcGo
        simp only [gvName, mYes, Res.nox, Res.bind, if_true]
        rw [e_call (e_cons (e_var (by rw [List.getElem?_set_self hn])) e_nil) e]
        simp only [ih']
        rfl
  exact key (readsR_t rs) hg
theorem good_of {ws : List Str} {xs : Rdg} (h : ∀ x ∈ xs, GoodP ws x) (hl : xs.length ≤ 100) : GoodR xs ∧ xs.length ≤ 100 := ⟨⟨fun x hx => ⟨(h x hx).1.1, (h x hx).2⟩, by omega⟩, hl⟩
theorem round_w {f : Int} (s : SrcAt st i) (hf : f = 0 ∨ f = 1) (q : ∀ st', Adv i st st' → QD (.bl true) st') : W (m_law_round [.box i, .int f] st) QD X := by
  refine w_defL ?_
  unfold b_law_round
  simp only [bp1, bp2, q_next, q_pick, q_words]
  refine next_w s fun s1 a1 => ⟨Nat.zero_le _, ?_⟩
  refine words_w (m := 3) (L := 7) (spent := []) (a1.src s) (by decide) (by decide) (by decide) (by decide) fun ws s2 wl wn wo a2 => ?_
  have a12 := a1.trans a2
  refine pick_w (a12.src s) (by decide) (by decide) fun z s3 z0 z1 a3 => ?_
  have a13 := a12.trans a3
  simp only [bp1, bp2]
  rw [v_rng1i (by omega) (by omega)]
  refine lc_w (R := fun y => ∃ xs, y = readD xs ∧ GoodR xs ∧ xs.length ≤ 100) (I := fun s => Adv i st s) (by rw [rangeD_len]; unfold lim; omega) a13 (fun d hd s4 a4 => ⟨_, v_gname, ?_⟩) fun ys s4 hl hR a4 => ?_
  · simp only [bp1, bp2]
    exact wide_w (a4.src s) (fun w hw => (wo w hw).1) (fun e => by rw [e] at wl; cases wl) (by omega) fun xs s5 h1 h2 a5 => ⟨a4.trans a5, xs, rfl, good_of h2 h1⟩
  obtain ⟨rs, hys, hg⟩ : ∃ rs : List Rdg, ys = rs.map readD ∧ ∀ xs ∈ rs, GoodR xs ∧ xs.length ≤ 100 := by
    clear hl
    induction ys with
    | nil => exact ⟨[], rfl, by simp⟩
    | cons y ys ih =>
      obtain ⟨xs, rfl, h⟩ := hR y List.mem_cons_self
      obtain ⟨rs, rfl, h2⟩ := ih fun z hz => hR z (List.mem_cons_of_mem _ hz)
      exact ⟨xs :: rs, rfl, fun z hz => (List.mem_cons.mp hz).elim (fun e => e ▸ h) (h2 z)⟩
  subst hys
  rw [List.length_map, rangeD_len] at hl
  have h1 : rs ≠ [] := fun e => by rw [e] at hl; simp at hl; omega
  have h6 : rs.length ≤ 6 := by omega
  have hch : D.tup (rs.map readD) = chD rs := rfl
  simp only [bp1, bp2, hch, there_eq hf hg h1 h6]
  have hg' : ∀ xs ∈ rs, GoodR xs := fun xs hx => (hg xs hx).1
  rw [lines_lc (by show 11 < 12; decide) hg' (by omega)]
  have ll : (linesD rs).length = rs.length := by unfold linesD; rw [List.length_map]
  refine ws_cut (M := fun env s => ∃ e6 e7 e8 e9 e10 e11, env = [some (.box i), some (.int f), some (.lst (ws.map .str)), some (.int (1 + z)), some (chD rs), some (.lst (linesD rs)), e6, e7, e8, e9, e10, e11] ∧ Adv i st s) ?_ ?_
  · simp only [bp1, bp2]
    rw [show (4 : Int) = ((4 : Nat) : Int) from rfl, v_rng1 (by decide)]
    simp only [bp1, bp2]
    refine ws_range (P := fun _ env s => ∃ e6 e7 e8 e9 e10, env = [some (.box i), some (.int f), some (.lst (ws.map .str)), some (.int (1 + z)), some (chD rs), some (.lst (linesD rs)), e6, e7, e8, e9, e10, none] ∧ Adv i st s) ⟨_, _, _, _, _, rfl, a4⟩ (fun k env s hk p => ?_) fun env s p => ?_
    · obtain ⟨e6, e7, e8, e9, e10, rfl, a5⟩ := p
      unfold stepF
      simp only [bp1, bp2, q_next, q_pick, q_one_of]
      refine next_w (a5.src ‹SrcAt st i›) fun s6 a6 => ?_
      have a56 := a5.trans a6
      simp only [bp1, bp2, list_lst]
      refine ws_cut (M := fun env s => ∃ (e8 : Option D) (L : List D), env = [some (.box i), some (.int f), some (.lst (ws.map .str)), some (.int (1 + z)), some (chD rs), some (.lst (linesD rs)), some (.int k), some (.lst L), e8, e9, e10, none] ∧ Adv i st s ∧ L.length ≤ 100 ∧ ∀ d ∈ L, LineN 2000 d) ?_ ?_
      · simp only [bp1, bp2]
        refine pick_w (a56.src ‹SrcAt st i›) (by decide) (by decide) fun y s7 y0 y1 a7 => ?_
        simp only [bp1, bp2]
        rw [v_rng1i (by omega) (by omega)]
        simp only [bp1, bp2]
        refine ws_range (P := fun m env s => ∃ (e8 : Option D) (L : List D), env = [some (.box i), some (.int f), some (.lst (ws.map .str)), some (.int (1 + z)), some (chD rs), some (.lst (linesD rs)), some (.int k), some (.lst L), e8, e9, e10, none] ∧ Adv i st s ∧ L.length ≤ 6 + 7 * m ∧ ∀ d ∈ L, LineN (1200 + 20 * m) d) ⟨_, _, rfl, a56.trans a7, by omega, lines_good hg⟩ (fun m env s hm p => ?_) fun env s p => ?_
        · obtain ⟨e8', L, rfl, a8, l8, n8⟩ := p
          unfold stepF
          simp only [bp1, bp2]
          refine bent_lines_w (n := 1200 + 20 * m) (m := 6 + 7 * m) (a8.src ‹SrcAt st i›) n8 l8 (by omega) (by omega) (by omega) fun L' s9 n9 l9 a9 => ?_
          exact ⟨_, L', rfl, a8.trans a9, by omega, fun d hd => (n9 d hd).up (by omega)⟩
        · obtain ⟨e8', L, rfl, a8, l8, n8⟩ := p
          exact ⟨e8', L, rfl, a8, by omega, fun d hd => (n8 d hd).up (by omega)⟩
      · rintro env s ⟨e8', L, rfl, a8, l8, n8⟩
        have ok : ∀ d ∈ L, LineOk d := fun d hd => (n8 d hd).1
        have el := eq_lst (st := s) (k := 3) (fun d hd => (n8 d hd).2.2) (by decide) (low_lines ok)
        have a1 := asked_eq (st := s) (a := .lst L) rfl (by omega) ok
        have a2 := asked_eq (st := s) (a := .tup L) rfl (by omega) ok
        simp only [bp1, bp2, list_lst, law_read_ok (st := s) (show L.length ≤ 1000 by omega) ok]
        rcases hf with rfl | rfl
        · simp only [bp1, bp2, a2, el, tru_lst, show ((0 : Int) == 1) = false from rfl]
          refine ⟨fun hne => ?_, fun _ => ⟨_, _, _, _, _, rfl, a8⟩⟩
          refine one_of_w (ds := L) (a8.src ‹SrcAt st i›) rfl (fun e => by rw [e] at hne; cases hne) (by omega) (low_lines ok) fun x s9 hx a9 => ?_
          rw [askline_eq (ok x hx)]
          simp only [bp1, bp2]
          exact ⟨_, _, _, _, _, rfl, a8.trans a9⟩
        · simp only [bp1, bp2, a1, el, tru_lst, show ((1 : Int) == 1) = true from rfl]
          refine ⟨fun hne => ?_, fun _ => ⟨_, _, _, _, _, rfl, a8⟩⟩
          refine one_of_w (ds := L) (a8.src ‹SrcAt st i›) rfl (fun e => by rw [e] at hne; cases hne) (by omega) (low_lines ok) fun x s9 hx a9 => ?_
          rw [askline_eq (ok x hx)]
          simp only [bp1, bp2]
          exact ⟨_, _, _, _, _, rfl, a8.trans a9⟩
    · obtain ⟨e6, e7, e8, e9, e10, rfl, a5⟩ := p
      exact ⟨_, _, _, _, _, _, rfl, a5⟩
  · rintro env s ⟨e6, e7, e8, e9, e10, e11, rfl, a5⟩
    simp only [bp1, bp2]
    have hf2 : 1 - f = 0 ∨ 1 - f = 1 := by omega
    rw [there_eq hf2 hg h1 h6]
    exact ⟨rfl, by rw [a5.take]; exact q s a5⟩
theorem law_w {ns : List Int} : W (m_law [.scr (ns.map .int)] []) (fun d _ => d = .bl true) X0 := by
  refine w_defL ?_
  unfold b_law
  have src : m_law_source [.scr (ns.map .int), .int 0] [] = .ok (.box 0) [srcO ns 0 0 0 0] := by
    rw [q_source]; exact source_ok (st := []) (S := ns) (k := 0)
  have s0 : SrcAt [srcO ns 0 0 0 0] 0 := ⟨ns, 0, 0, 0, 0, rfl, Int.le_refl 0⟩
  simp only [bp1, bp2, src]
  refine round_w s0 (.inl rfl) fun s1 a1 => ?_
  simp only [bp1, bp2]
  refine round_w (a1.src s0) (.inr rfl) fun s2 a2 => ?_
  simp only [bp1, bp2]
  refine round_w (a2.src (a1.src s0)) (.inl rfl) fun s3 a3 => ⟨rfl, rfl⟩
theorem pure_law (ns : List Int) (_ : ns.length ≤ 63) : ∃ st, m_law [.scr (ns.map .int)] [] = .ok (.bl true) st := by
  obtain ⟨a, s, e, rfl⟩ := W.get (law_w (ns := ns))
  exact ⟨s, e⟩
end
end Law
end
section
set_option Elab.async false
set_option linter.all false
set_option maxRecDepth 100000
set_option maxHeartbeats 0
theorem PySem.Challenge.cw_keptacross_k07_work_lines_holds : PySem.Challenge.rw_keptacross_k07_work_lines.Holds := by
  exact law_from Law.pure_law
end
