import PyProof.Rows.All
import Wide.All
import OpenK.AllK
import Wide.FinOn
import HandS.ForMost
import HandS.Exc
import HandS.TryOnly
import HandS.ExcOwn
import HandS.WordsExc
import HandS.Wide
import HandS.FStr
import HandS.RaiseMore
import HandS.WrittenGet
import HandS.Walk
import HandS.Steps
import HandS.Style
import HandS.Flow
import HandS.Conv
import HandS.DictComp
import HandS.IsInst
import HandS.Dict
import HandS.Nested
import HandS.Codes
import PySem.Challenge.RW_anewhall_k10_wells_and_noughts
set_option Elab.async false
set_option linter.all false
set_option maxRecDepth 100000
namespace Aw
open PySem L2
/-! ### the mirror: trees, words, the parser, the lexer -/
inductive Kd where
  | sum | least | most
  deriving DecidableEq
def Kd.nm : Kd → Str
  | .sum => "sum"
  | .least => "least"
  | .most => "most"
def Kd.sg : Kd → Str
  | .sum => "+"
  | .least => "&"
  | .most => "|"
inductive T where
  | num (n : Int)
  | name (s : Str)
  | gate (s : Str) (b : Int) (t : T)
  | join (k : Kd) (ts : List T)
/-- a whole number's text -/
def tx (i : Int) : Str := toString i
def wd (ws : List Str) (i : Nat) : Str := ws.getD i Str.empty
def LET : List Nat := (("abcdefghijklmnopqrstuvwxyz" : Str)).cps.toList
def FIG : List Nat := (("0123456789" : Str)).cps.toList
def OTH : List Nat := (("+&|()[]" : Str)).cps.toList
def nameM (s : Str) : Bool := decide (1 ≤ s.length ∧ s.length ≤ 6) && s.cps.toList.all fun c => decide (c ∈ LET)
def numM (lo : Int) (w : Str) : Option Int := ((List.range (31 - lo).toNat).find? fun i => decide (w = tx (lo + (i : Nat)))).map fun i => lo + (i : Nat)
section
variable (ws : List Str)
def chainM (f : Nat → Option (T × Nat)) (sg : Str) : Nat → List T → Nat → Option (List T × Nat)
  | 0, _, _ => none
  | n + 1, ts, j => if wd ws j = sg then
      match f (j + 1) with
      | none => none
      | some (t, j') => chainM f sg n (ts ++ [t]) j'
    else some (ts, j)
/-- what the chain of pieces comes to -/
def joinM (k : Kd) (ts : List T) : Option T := if 8 < ts.length then none else
  match ts with
  | [t] => some t
  | _ => some (.join k ts)
def levelM (f : Nat → Option (T × Nat)) : List Kd → Nat → Option (T × Nat)
  | [], i => f i
  | k :: ks, i =>
    match levelM f ks i with
    | none => none
    | some (t, j) =>
      match chainM ws (levelM f ks) k.sg (ws.length + 1) [t] j with
      | none => none
      | some (ts, j') => (joinM k ts).map fun t => (t, j')
def kinds : List Kd := [.most, .least, .sum]
def gateM (f : Nat → Option (T × Nat)) (i : Nat) : Option (T × Nat) :=
  if nameM (wd ws i) = true then
    match numM 1 (wd ws (i + 1)) with
    | none => none
    | some b => if wd ws (i + 2) = "]" then (f (i + 3)).map fun r => (.gate (wd ws i) b r.1, r.2) else none
  else none
def pieceM : Nat → Nat → Option (T × Nat)
  | 0, _ => none
  | d + 1, i =>
    if wd ws i = "(" then
      match levelM ws (pieceM d) kinds (i + 1) with
      | none => none
      | some (t, j) => if wd ws j = ")" then some (t, j + 1) else none
    else if wd ws i = "[" then gateM ws (pieceM d) (i + 1)
    else if nameM (wd ws i) = true then some (.name (wd ws i), i + 1)
    else (numM 0 (wd ws i)).map fun n => (.num n, i + 1)
end
inductive Kn where
  | letter | figure | other | blank
  deriving DecidableEq
def Kn.nm : Kn → Str
  | .letter => "letter"
  | .figure => "figure"
  | .other => "other"
  | .blank => "blank"
def sg1 (c : Nat) : Str := ⟨#[c]⟩
def kindM (c : Nat) : Option Kn :=
  if c ∈ LET then some .letter else if c ∈ FIG then some .figure else if c ∈ OTH then some .other else if sg1 c = " " then some .blank else none
def addLast (ws : List Str) (c : Nat) : List Str := ws.set (ws.length - 1) (wd ws (ws.length - 1) ++ sg1 c)
def lexStep (st : List Str × Kn) (c : Nat) (k : Kn) : List Str :=
  if k = st.2 ∧ (k = .letter ∨ k = .figure) then addLast st.1 c else if k ≠ .blank then st.1 ++ [sg1 c] else st.1
def lexGo : List Nat → List Str → Kn → Option (List Str)
  | [], ws, _ => some ws
  | c :: r, ws, b =>
    match kindM c with
    | none => none
    | some k => lexGo r (lexStep (ws, b) c k) k
def lexM (z : Str) : Option (List Str) := lexGo z.cps.toList [] .blank
def readM (z : Str) : Option T :=
  if 400 < z.length then none else
  match lexM z with
  | none => none
  | some ws => if 40 < ws.length then none else
    match levelM ws (pieceM ws 3) kinds 0 with
    | none => none
    | some (t, j) => if wd ws j = Str.empty then some t else none
/-! ### the heap -/
/-- all but what stands at p is as it was -/
def But (p : Addr) (H H' : Hp) : Prop := ∀ b o, H b = some o → b ≠ p → H' b = some o
theorem But.refl (p : Addr) (H : Hp) : But p H H := fun _ _ h _ => h
theorem But.trans {p : Addr} {H H1 H2 : Hp} (a : But p H H1) (b : But p H1 H2) : But p H H2 := fun c o h hc => b c o (a c o h hc) hc
theorem But.of_same {p : Addr} {H H1 : Hp} (a : Same H H1) : But p H H1 := fun c o h _ => a c o h
theorem same_new {H : Hp} {p : Addr} (h : H p = none) (o : HO) : Same H (upd H p o) := fun b u q => by rw [upd_ne (ne_of_none q h)]; exact q
theorem same_upd {H H1 : Hp} {D : Addr} (s : Same H H1) (hD : H D = none) (o : HO) : Same H (upd H1 D o) := fun b u q => by rw [upd_ne (ne_of_none q hD)]; exact s b u q
theorem take_more {α : Type} : ∀ {l : List α} {i : Nat} {x : α}, l[i]? = some x → l.take (i + 1) = l.take i ++ [x]
  | [], i, x, h => by simp at h
  | a :: l, 0, x, h => by
    have e : a = x := Option.some.inj h
    subst e
    rfl
  | a :: l, i + 1, x, h => by
    have ih := take_more (l := l) (i := i) (x := x) h
    show a :: l.take (i + 1) = a :: l.take i ++ [x]
    rw [ih]
    rfl
theorem But.upd {p : Addr} {H : Hp} (o : HO) : But p H (upd H p o) := fun b u q hb => by rw [upd_ne hb]; exact q
mutual
inductive TA (H : Hp) : V → T → Prop
  | num {a : Addr} {n : Int} : H a = some (.tup [.str "number", .int n]) → TA H (.ref a) (.num n)
  | name {a : Addr} {s : Str} : H a = some (.tup [.str "name", .str s]) → TA H (.ref a) (.name s)
  | gate {a : Addr} {s : Str} {b : Int} {v : V} {t : T} : H a = some (.tup [.str "gate", .str s, .int b, v]) → TA H v t → TA H (.ref a) (.gate s b t)
  | join {a p : Addr} {k : Kd} {vs : List V} {ts : List T} : H a = some (.tup [.str k.nm, .ref p]) → H p = some (.tup vs) → TAs H vs ts → TA H (.ref a) (.join k ts)
inductive TAs (H : Hp) : List V → List T → Prop
  | nil : TAs H [] []
  | cons {v : V} {t : T} {vs : List V} {ts : List T} : TA H v t → TAs H vs ts → TAs H (v :: vs) (t :: ts)
end
/-- every tuple stays -/
def Tups (H H' : Hp) : Prop := ∀ b xs, H b = some (.tup xs) → H' b = some (.tup xs)
theorem Tups.of_same {H H' : Hp} (h : Same H H') : Tups H H' := fun b _ q => h b _ q
theorem Tups.of_but {H H' : Hp} {p : Addr} (h : But p H H') (hp : ∀ xs, H p ≠ some (.tup xs)) : Tups H H' := fun b xs q => h b _ q fun e => hp xs (e ▸ q)
mutual
theorem TA.mono {H H' : Hp} (h : Tups H H') : ∀ {v : V} {t : T}, TA H v t → TA H' v t
  | _, _, .num e => .num (h _ _ e)
  | _, _, .name e => .name (h _ _ e)
  | _, _, .gate e q => .gate (h _ _ e) (TA.mono h q)
  | _, _, .join e e2 q => .join (h _ _ e) (h _ _ e2) (TAs.mono h q)
theorem TAs.mono {H H' : Hp} (h : Tups H H') : ∀ {v : List V} {t : List T}, TAs H v t → TAs H' v t
  | _, _, .nil => .nil
  | _, _, .cons a b => .cons (TA.mono h a) (TAs.mono h b)
end
theorem TAs.length {H : Hp} {vs : List V} {ts : List T} (h : TAs H vs ts) : vs.length = ts.length := by
  induction vs generalizing ts with
  | nil => cases h; rfl
  | cons v r ih => cases h with | cons a b => rw [List.length_cons, List.length_cons, ih b]
theorem TAs.snoc {H : Hp} {v : V} {t : T} (h1 : TA H v t) : ∀ {vs : List V} {ts : List T}, TAs H vs ts → TAs H (vs ++ [v]) (ts ++ [t])
  | _, _, .nil => .cons h1 .nil
  | _, _, .cons a b => .cons a (TAs.snoc h1 b)
theorem TAs.get {H : Hp} : ∀ {vs : List V} {ts : List T} {i : Nat} {v : V}, TAs H vs ts → vs[i]? = some v → ∃ t, ts[i]? = some t ∧ TA H v t
  | _, _, i, v, .nil, h => by simp at h
  | _, _, 0, v, .cons a b, h => ⟨_, rfl, by have e := Option.some.inj h; exact e ▸ a⟩
  | _, _, i + 1, v, .cons a b, h => by
    obtain ⟨t, h1, h2⟩ := TAs.get b (i := i) (v := v) (by simpa using h)
    exact ⟨t, by simpa using h1, h2⟩
/-! ### the reader of words -/
def rflds (l : Addr) (i : Nat) : List (Str × V) := putF "at" (.int i) (putF "words" (.ref l) [])
theorem wa : ¬ (("words" : Str) = "at") := by decide +kernel
theorem rflds_words (l : Addr) (i : Nat) : (rflds l i).lookup ("words" : Str) = some (.ref l) := by
  unfold rflds
  rw [lookup_putF, if_neg wa, lookup_putF, if_pos rfl]
theorem rflds_at (l : Addr) (i : Nat) : (rflds l i).lookup ("at" : Str) = some (.int i) := by
  unfold rflds
  rw [lookup_putF, if_pos rfl]
theorem rflds_no (l : Addr) (i : Nat) {m : Str} (h1 : ¬ m = "at") (h2 : ¬ m = "words") : (rflds l i).lookup m = none := by
  unfold rflds
  rw [lookup_putF, if_neg h1, lookup_putF, if_neg h2]
  all_goals rfl
theorem rflds_eq (l : Addr) (i : Nat) : rflds l i = ([("words", V.ref l), ("at", V.int i)] : List (Str × V)) := by
  show (if ("words" : Str) = "at" then [(("words" : Str), V.int i)] else (("words" : Str), V.ref l) :: putF "at" (V.int i) []) = ([("words", V.ref l), ("at", V.int i)] : List (Str × V))
  rw [if_neg wa]
  all_goals rfl
theorem rflds_put (l : Addr) (i : Nat) {z : Int} (hz : z = ((i + 1 : Nat) : Int)) : putF "at" (.int z) (rflds l i) = rflds l (i + 1) := by
  subst hz
  rw [rflds_eq, rflds_eq]
  show (if ("words" : Str) = "at" then _ else (("words" : Str), V.ref l) :: (if ("at" : Str) = "at" then [(("at" : Str), V.int ((i + 1 : Nat) : Int))] else _)) = ([("words", V.ref l), ("at", V.int ((i + 1 : Nat) : Int))] : List (Str × V))
  rw [if_neg wa, if_pos rfl]
structure RdAt (C p l : Addr) (ws : List Str) (i : Nat) (H : Hp) : Prop where
  ob : ∃ dx, H p = some (.ins C dx (rflds l i))
  ls : H l = some (.lst (ws.map V.str))
  ln : ws.length ≤ 1000
theorem RdAt.mono {C p l : Addr} {ws : List Str} {i : Nat} {H H' : Hp} (h : RdAt C p l ws i H) (s : Same H H') : RdAt C p l ws i H' := by
  obtain ⟨dx, e⟩ := h.ob
  exact ⟨⟨dx, s _ _ e⟩, s _ _ h.ls, h.ln⟩
theorem RdAt.tups {C p l : Addr} {ws : List Str} {i : Nat} {H H' : Hp} (h : RdAt C p l ws i H) (s : But p H H') : Tups H H' := by
  obtain ⟨dx, e⟩ := h.ob
  exact Tups.of_but s fun xs q => by rw [e] at q; cases q
theorem RdAt.keep {C p l : Addr} {ws : List Str} {i : Nat} {H H' : Hp} (h : RdAt C p l ws i H) (s : But p H H') {a : Addr} {xs : List V} (e : H a = some (.lst xs)) : H' a = some (.lst xs) := by
  obtain ⟨dx, e1⟩ := h.ob
  exact s _ _ e (ne_of e e1 (by intro z; cases z))
theorem RdAt.ne_new {C p l : Addr} {ws : List Str} {i : Nat} {H : Hp} (h : RdAt C p l ws i H) {a : Addr} (e : H a = none) : p ≠ a := by
  obtain ⟨dx, e1⟩ := h.ob
  exact ne_of_none e1 e
theorem wd_get {ws : List Str} {i : Nat} (h : i < ws.length) : ws[i]? = some (wd ws i) := by
  unfold wd
  rw [List.getD_eq_getElem?_getD, List.getElem?_eq_getElem h]
  rfl
theorem wd_end {ws : List Str} {i : Nat} (h : ¬ i < ws.length) : wd ws i = Str.empty := by
  unfold wd
  rw [List.getD_eq_getElem?_getD, List.getElem?_eq_none (by omega)]
  rfl
theorem wd_lt {ws : List Str} {i : Nat} {s : Str} (h : wd ws i = s) (hs : ¬ Str.empty = s) : i < ws.length := by
  rcases Nat.lt_or_ge i ws.length with q | q
  · exact q
  · exact absurd ((wd_end (by omega)).symm.trans h) hs
/-! ### the promises of the reading -/
def spInit (C : Addr) : Sp := fun vs H Q _ => ∃ (p dx l : Addr), vs = [.ref p, .ref l] ∧ H p = some (.ins C dx []) ∧ ∀ (H' : Hp), H' p = some (.ins C dx (rflds l 0)) → But p H H' → Q .non H'
def spAhead (C : Addr) : Sp := fun vs H Q _ => ∃ p l ws i, vs = [.ref p] ∧ RdAt C p l ws i H ∧ Q (.str (wd ws i)) H
def spTaken (C : Addr) : Sp := fun vs H Q _ => ∃ p l ws i, vs = [.ref p] ∧ RdAt C p l ws i H ∧ ∀ H', But p H H' → RdAt C p l ws (i + 1) H' → Q (.str (wd ws i)) H'
def spExpect (C N : Addr) : Sp := fun vs H Q E => ∃ p l ws i z, vs = [.ref p, .str z] ∧ RdAt C p l ws i H ∧ z.length ≤ 1000 ∧ (∀ w ∈ ws, w.length ≤ 1000) ∧
  (wd ws i = z → ∀ H', But p H H' → RdAt C p l ws (i + 1) H' → Q .non H') ∧ (¬ wd ws i = z → ∀ H', But p H H' → E (.ref N) none H')
def spName : Sp := fun vs H Q _ => ∃ z, vs = [.str z] ∧ z.length ≤ 1000 ∧ ∀ H', Same H H' → Q (.bl (nameM z)) H'
def spNum (N : Addr) : Sp := fun vs H Q E => ∃ z lo, vs = [.str z, .int lo] ∧ 0 ≤ lo ∧ lo ≤ 30 ∧ (∀ n, numM lo z = some n → Q (.int n) H) ∧ (numM lo z = none → E (.ref N) none H)
def spKind (N : Addr) : Sp := fun vs H Q E => ∃ c, vs = [.str (sg1 c)] ∧ (∀ k, kindM c = some k → Q (.str k.nm) H) ∧ (kindM c = none → E (.ref N) none H)
def spWords (N : Addr) : Sp := fun vs H Q E => ∃ z, vs = [.str z] ∧ z.length ≤ 1000 ∧ (∀ ws, lexM z = some ws → ∀ l H', Same H H' → H l = none → H' l = some (.lst (ws.map V.str)) → Q (.ref l) H') ∧ (lexM z = none → ∀ H', Same H H' → E (.ref N) none H')
/-- a reading of a piece from the word at i on -/
def RdOut (C N p l : Addr) (ws : List Str) (H : Hp) (Q : VK) (E : XK) : Option (T × Nat) → Prop
  | some (t, j) => ∀ v H', But p H H' → RdAt C p l ws j H' → TA H' v t → Q v H'
  | none => ∀ H', But p H H' → E (.ref N) none H'
structure WsOk (ws : List Str) : Prop where
  ws : ∀ w ∈ ws, w.length ≤ 1000
theorem WsOk.wd {ws : List Str} (h : WsOk ws) (i : Nat) : (wd ws i).length ≤ 1000 := by
  rcases Nat.lt_or_ge i ws.length with q | q
  · exact h.ws _ (List.mem_of_getElem? (wd_get q))
  · rw [wd_end (by omega)]; exact Nat.zero_le _
def spLevel (C N : Addr) (ks : List Kd) (f : List Str → Nat → Option (T × Nat)) (lv dp : Int) : Sp := fun vs H Q E => ∃ p l ws i, vs = [.ref p, .int lv, .int dp] ∧ RdAt C p l ws i H ∧ WsOk ws ∧ RdOut C N p l ws H Q E (levelM ws (f ws) ks i)
def spPiece (C N : Addr) (f : List Str → Nat → Option (T × Nat)) (dp : Int) : Sp := fun vs H Q E => ∃ p l ws i, vs = [.ref p, .int dp] ∧ RdAt C p l ws i H ∧ WsOk ws ∧ RdOut C N p l ws H Q E (f ws i)
def spRead (N : Addr) : Sp := fun vs H Q E => ∃ z, vs = [.str z] ∧ (z.length ≤ sizeLine) ∧ (∀ t, readM z = some t → ∀ v H', Same H H' → TA H' v t → Q v H') ∧ (readM z = none → ∀ H', Same H H' → E (.ref N) none H')
end Aw

namespace Aw
open PySem L2
/-! ### the law's own trees (lists in the place of tuples), dice, names -/
mutual
inductive LA (H : Hp) : V → T → Prop
  | num {a : Addr} {n : Int} : H a = some (.tup [.str "number", .int n]) → LA H (.ref a) (.num n)
  | name {a : Addr} {s : Str} : H a = some (.tup [.str "name", .str s]) → LA H (.ref a) (.name s)
  | gate {a : Addr} {s : Str} {b : Int} {v : V} {t : T} : H a = some (.tup [.str "gate", .str s, .int b, v]) → LA H v t → LA H (.ref a) (.gate s b t)
  | join {a p : Addr} {k : Kd} {vs : List V} {ts : List T} : H a = some (.tup [.str k.nm, .ref p]) → H p = some (.lst vs) → 0 < ts.length → LAs H vs ts → LA H (.ref a) (.join k ts)
inductive LAs (H : Hp) : List V → List T → Prop
  | nil : LAs H [] []
  | cons {v : V} {t : T} {vs : List V} {ts : List T} : LA H v t → LAs H vs ts → LAs H (v :: vs) (t :: ts)
end
theorem LA.isRef {H : Hp} {v : V} {t : T} (h : LA H v t) : ∃ a, v = .ref a := by
  cases h <;> exact ⟨_, rfl⟩
theorem LAs.headRef {H : Hp} {vs : List V} {ts : List T} (h : LAs H vs ts) (h0 : 0 < ts.length) : ∃ a r, vs = .ref a :: r := by
  cases h with
  | nil => exact absurd h0 (Nat.lt_irrefl 0)
  | cons a b =>
    obtain ⟨x, rfl⟩ := a.isRef
    exact ⟨x, _, rfl⟩
/-- tuples stay, and lists that begin with an object -/
def Keep (H H' : Hp) : Prop := (∀ b xs, H b = some (.tup xs) → H' b = some (.tup xs)) ∧ ∀ b a r, H b = some (.lst (.ref a :: r)) → H' b = some (.lst (.ref a :: r))
theorem Keep.of_same {H H' : Hp} (h : Same H H') : Keep H H' := ⟨fun b _ q => h b _ q, fun b _ _ q => h b _ q⟩
theorem Keep.of_but {H H' : Hp} {p : Addr} (h : But p H H') (hp : ∃ i r, H p = some (.lst (.int i :: r))) : Keep H H' := by
  obtain ⟨i, r, e⟩ := hp
  refine ⟨fun b xs q => h b _ q (fun z => ?_), fun b a r' q => h b _ q (fun z => ?_)⟩
  · subst z; rw [e] at q; cases q
  · subst z; rw [e] at q; cases q
mutual
theorem LA.mono {H H' : Hp} (h : Keep H H') : ∀ {v : V} {t : T}, LA H v t → LA H' v t
  | _, _, .num e => .num (h.1 _ _ e)
  | _, _, .name e => .name (h.1 _ _ e)
  | _, _, .gate e q => .gate (h.1 _ _ e) (LA.mono h q)
  | _, _, .join e e2 h0 q => .join (h.1 _ _ e) (by obtain ⟨a, r, rfl⟩ := q.headRef h0; exact h.2 _ _ _ e2) h0 (LAs.mono h q)
theorem LAs.mono {H H' : Hp} (h : Keep H H') : ∀ {v : List V} {t : List T}, LAs H v t → LAs H' v t
  | _, _, .nil => .nil
  | _, _, .cons a b => .cons (LA.mono h a) (LAs.mono h b)
end
theorem LAs.length {H : Hp} {vs : List V} {ts : List T} (h : LAs H vs ts) : vs.length = ts.length := by
  induction vs generalizing ts with
  | nil => cases h; rfl
  | cons v r ih => cases h with | cons a b => rw [List.length_cons, List.length_cons, ih b]
theorem LAs.snoc {H : Hp} {v : V} {t : T} (h1 : LA H v t) : ∀ {vs : List V} {ts : List T}, LAs H vs ts → LAs H (vs ++ [v]) (ts ++ [t])
  | _, _, .nil => .cons h1 .nil
  | _, _, .cons a b => .cons a (LAs.snoc h1 b)
theorem LAs.get {H : Hp} : ∀ {vs : List V} {ts : List T} {i : Nat} {v : V}, LAs H vs ts → vs[i]? = some v → ∃ t, ts[i]? = some t ∧ LA H v t
  | _, _, i, v, .nil, h => by simp at h
  | _, _, 0, v, .cons a b, h => ⟨_, rfl, by have e := Option.some.inj h; exact e ▸ a⟩
  | _, _, i + 1, v, .cons a b, h => by
    obtain ⟨t, h1, h2⟩ := LAs.get b (i := i) (v := v) (by simpa using h)
    exact ⟨t, by simpa using h1, h2⟩
/-- what a drawn tree keeps: at most d storeys -/
def TOk (P : Str → Prop) : Nat → T → Prop
  | _, .num n => 0 ≤ n ∧ n ≤ 30
  | _, .name s => P s
  | 0, .gate _ _ _ => False
  | 0, .join _ _ => False
  | d + 1, .gate s b t => P s ∧ 1 ≤ b ∧ b ≤ 30 ∧ TOk P d t
  | d + 1, .join _ ts => 2 ≤ ts.length ∧ ts.length ≤ 3 ∧ ∀ t ∈ ts, TOk P d t
theorem TOk.num {P : Str → Prop} {d : Nat} {n : Int} (h : TOk P d (.num n)) : 0 ≤ n ∧ n ≤ 30 := by cases d <;> exact h
theorem TOk.name {P : Str → Prop} {d : Nat} {s : Str} (h : TOk P d (.name s)) : P s := by cases d <;> exact h
theorem TOk.mkNum {P : Str → Prop} {d : Nat} {n : Int} (h : 0 ≤ n ∧ n ≤ 30) : TOk P d (.num n) := by cases d <;> exact h
theorem TOk.mkName {P : Str → Prop} {d : Nat} {s : Str} (h : P s) : TOk P d (.name s) := by cases d <;> exact h
theorem TOk.imp {P P' : Str → Prop} (hp : ∀ s, P s → P' s) : ∀ (d : Nat) {t : T}, TOk P d t → TOk P' d t
  | 0, .num _, h => h
  | 0, .name _, h => hp _ h
  | 0, .gate _ _ _, h => h
  | 0, .join _ _, h => h
  | d + 1, .num _, h => h
  | d + 1, .name _, h => hp _ h
  | d + 1, .gate _ _ _, h => ⟨hp _ h.1, h.2.1, h.2.2.1, TOk.imp hp d h.2.2.2⟩
  | d + 1, .join _ _, h => ⟨h.1, h.2.1, fun t ht => TOk.imp hp d (h.2.2 t ht)⟩
def NameOk (s : Str) : Prop := nameM s = true
def DiceAt (H : Hp) (d : Addr) : Prop := ∃ x y : Int, H d = some (.lst [.int x, .int y]) ∧ 0 ≤ x ∧ x < 2147483647 ∧ 0 ≤ y
theorem DiceAt.mono {H H' : Hp} {d : Addr} (h : DiceAt H d) (s : Same H H') : DiceAt H' d := by
  obtain ⟨x, y, e, q⟩ := h
  exact ⟨x, y, s _ _ e, q⟩
theorem DiceAt.keep {H H' : Hp} {d : Addr} (h : DiceAt H d) (b : But d H H') : Keep H H' := by
  obtain ⟨x, y, e, q⟩ := h
  exact .of_but b ⟨x, _, e⟩
/-- what is new in H' -/
def fresh (H H' : Hp) : Hp := fun b => match H b with
  | none => H' b
  | some _ => none
def hide (D : Addr) (G : Hp) : Hp := fun b => if b = D then none else G b
theorem fresh_at {H H' : Hp} {p : Addr} {o : HO} (h : H p = none) (e : H' p = some o) : fresh H H' p = some o := by
  unfold fresh
  rw [h]
  exact e
theorem fresh_inv {H H' : Hp} {p : Addr} {o : HO} (h : fresh H H' p = some o) : H p = none ∧ H' p = some o := by
  unfold fresh at h
  cases e : H p with
  | none => rw [e] at h; exact ⟨rfl, h⟩
  | some u => rw [e] at h; cases h
theorem fresh_sub {H H' : Hp} : Same (fresh H H') H' := fun b o h => (fresh_inv h).2
theorem free_of {H H' : Hp} {dd p : Addr} (D : DiceAt H' dd) (b : But dd H H') (h : H' p = none) : H p = none := by
  cases e : H p with
  | none => rfl
  | some o =>
    by_cases c : p = dd
    · subst c
      obtain ⟨x, y, e2, _⟩ := D
      rw [h] at e2
      cases e2
    · have := b p o e c
      rw [h] at this
      cases this
/-- what a callee made new is new for the caller too -/
theorem fresh_step {H H1 H2 H3 : Hp} {dd : Addr} (D : DiceAt H1 dd) (b : But dd H H1) (s : Same H2 H3) : Same (fresh H1 H2) (fresh H H3) := fun p o h => by
  obtain ⟨h1, h2⟩ := fresh_inv h
  exact fresh_at (free_of D b h1) (s p o h2)
/-! ### how a tree is written -/
def Kd.rank : Kd → Int
  | .most => 1
  | .least => 2
  | .sum => 3
def sp1 : Str := " "
def Kd.sep (k : Kd) : Str := sp1 ++ k.sg ++ sp1
mutual
def wr (firm : Int) : T → Str
  | .num n => tx n
  | .name s => s
  | .gate s b t => "[" ++ s ++ " " ++ tx b ++ "] " ++ wr 4 t
  | .join k ts => if k.rank < firm then "(" ++ wrs k.sep (k.rank + 1) ts ++ ")" else wrs k.sep (k.rank + 1) ts
def wrs (sep : Str) (firm : Int) : List T → Str
  | [] => Str.empty
  | [t] => wr firm t
  | t :: r => wr firm t ++ sep ++ wrs sep firm r
end
theorem app_assoc (a b c : Str) : a ++ b ++ c = a ++ (b ++ c) := by
  show (⟨(a.cps ++ b.cps) ++ c.cps⟩ : Str) = ⟨a.cps ++ (b.cps ++ c.cps)⟩
  rw [Array.append_assoc]
theorem len_app' (a b : Str) : (a ++ b).length = a.length + b.length := by
  show (a.cps ++ b.cps).size = _
  rw [Array.size_append] <;> rfl
theorem wrs_one (sep : Str) (f : Int) (t : T) : wrs sep f [t] = wr f t := by unfold wrs; rfl
theorem wrs_two (sep : Str) (f : Int) (t u : T) (r : List T) : wrs sep f (t :: u :: r) = wr f t ++ sep ++ wrs sep f (u :: r) := by conv => lhs; unfold wrs
theorem wrs_snoc (sep : Str) (f : Int) (t : T) : ∀ {ts : List T}, ts ≠ [] → wrs sep f (ts ++ [t]) = wrs sep f ts ++ sep ++ wr f t
  | [], h => absurd rfl h
  | [u], _ => by
    show wrs sep f [u, t] = _
    rw [wrs_two, wrs_one, wrs_one]
  | u :: v :: r, _ => by
    show wrs sep f (u :: v :: (r ++ [t])) = _
    rw [wrs_two, wrs_two]
    have ih := wrs_snoc sep f t (ts := v :: r) (by intro z; cases z)
    rw [show v :: (r ++ [t]) = (v :: r) ++ [t] from rfl, ih, app_assoc, app_assoc, app_assoc, app_assoc, app_assoc]
theorem tx_len {n : Int} (h : 0 ≤ n ∧ n ≤ 30) : (tx n).length ≤ 2 := by
  have q : ∀ k : Nat, k < 31 → (tx (k : Int)).length ≤ 2 := by decide +kernel
  have e := q n.toNat (by omega)
  rwa [show ((n.toNat : Nat) : Int) = n by omega] at e
def LB : Nat → Nat
  | 0 => 6
  | d + 1 => 3 * LB d + 20
theorem LB_six : ∀ d, 6 ≤ LB d
  | 0 => Nat.le_refl 6
  | d + 1 => by have := LB_six d; show 6 ≤ 3 * LB d + 20; omega
theorem sep_len (k : Kd) : k.sep.length = 3 := by cases k <;> decide +kernel
theorem wrs_len {sep : Str} {f : Int} {B : Nat} (hs : sep.length = 3) : ∀ {ts : List T}, ts ≠ [] → (∀ t ∈ ts, (wr f t).length ≤ B) → (wrs sep f ts).length + 3 ≤ ts.length * (B + 3)
  | [], h, _ => absurd rfl h
  | [u], _, h => by
    rw [wrs_one]
    have := h u (List.mem_singleton.mpr rfl)
    show _ ≤ 1 * (B + 3)
    omega
  | u :: v :: r, _, h => by
    rw [wrs_two, len_app', len_app', hs]
    have ih := wrs_len hs (ts := v :: r) (f := f) (by intro z; cases z) fun t ht => h t (List.mem_cons_of_mem _ ht)
    have h1 := h u List.mem_cons_self
    have e : (u :: v :: r).length * (B + 3) = (v :: r).length * (B + 3) + (B + 3) := by
      rw [List.length_cons (a := u), Nat.add_mul, Nat.one_mul]
    omega
theorem wr_len {P : Str → Prop} (hP : ∀ s, P s → s.length ≤ 6) : ∀ (d : Nat) {t : T} (f : Int), TOk P d t → (wr f t).length ≤ LB d
  | d, .num n, f, h => by
    have := tx_len h.num
    have := LB_six d
    unfold wr
    omega
  | d, .name s, f, h => by
    have := hP _ h.name
    have := LB_six d
    unfold wr
    omega
  | 0, .gate _ _ _, _, h => h.elim
  | 0, .join _ _, _, h => h.elim
  | d + 1, .gate s b t, f, h => by
    obtain ⟨h1, h2, h3, h4⟩ := h
    have e1 := hP _ h1
    have e2 := tx_len (n := b) ⟨by omega, h3⟩
    have e3 := wr_len hP d 4 h4
    unfold wr
    rw [len_app', len_app', len_app', len_app', len_app']
    have c1 : ("[" : Str).length = 1 := by decide +kernel
    have c2 : (" " : Str).length = 1 := by decide +kernel
    have c3 : ("] " : Str).length = 2 := by decide +kernel
    show _ ≤ 3 * LB d + 20
    omega
  | d + 1, .join k ts, f, h => by
    obtain ⟨h1, h2, h3⟩ := h
    have hne : ts ≠ [] := by intro z; subst z; simp at h1
    have e := wrs_len (f := k.rank + 1) (B := LB d) (sep_len k) hne fun t ht => wr_len hP d _ (h3 t ht)
    have e2 : ts.length * (LB d + 3) ≤ 3 * (LB d + 3) := Nat.mul_le_mul_right _ h2
    have c1 : ("(" : Str).length = 1 := by decide +kernel
    have c2 : (")" : Str).length = 1 := by decide +kernel
    unfold wr
    show _ ≤ 3 * LB d + 20
    split
    · rw [len_app', len_app']; omega
    · omega
end Aw

namespace Aw
open PySem L2
/-! ### walks in general: a comprehension's turns over whatever stands still -/
theorem walk_gen {J : It} {n : Nat} {G : Hp → Prop} {Y : Nat → Hp → V → Hp → Prop} (w : Walk J n G Y) {B : V → Hp → (Hp → Prop) → Prop} {Qd : Hp → Prop} {Hs : Hp} (Pv : Nat → Hp → Prop) (h0 : Pv 0 Hs) (hG : ∀ i H, i ≤ n → Pv i H → G H)
    (hs : ∀ i x H H', i < n → Pv i H → Y i H x H' → B x H' (Pv (i + 1))) (hd : ∀ H, Pv n H → Qd H) :
    ∃ W : Nat → Nat → Hp → Prop, (∃ m, W 0 m Hs) ∧ ∀ i m H, W i m H → (J.stop i H ∧ Qd H) ∨ (J.go i H ∧ ∃ Nx : Hp → Prop, (∀ H', Nx H' → ∃ m', m' < m ∧ W (i + 1) m' H') ∧ ∀ x H', J.yld i H x H' → B x H' Nx) := by
  refine ⟨fun i m H => m = n - i ∧ i ≤ n ∧ Pv i H, ⟨n, by simp, Nat.zero_le _, h0⟩, ?_⟩
  rintro i m H ⟨rfl, hi, p⟩
  have q := hG i H hi p
  by_cases hlt : i < n
  · exact .inr ⟨w.goes i H hlt q, Pv (i + 1), fun H' p' => ⟨n - (i + 1), by omega, rfl, hlt, p'⟩, fun x H' y => hs i x H H' hlt p (w.yields i H x H' hlt q y)⟩
  · have e : i = n := by omega
    subst e
    exact .inl ⟨w.stops H q, hd H p⟩
/-! ### the names that stand in a tree -/
mutual
def named : T → List Str
  | .num _ => []
  | .name s => [s]
  | .gate s _ t => s :: named t
  | .join _ ts => nameds ts
def nameds : List T → List Str
  | [] => []
  | t :: r => named t ++ nameds r
end
theorem nameds_take {ts : List T} {i : Nat} {t : T} (h : ts[i]? = some t) : nameds (ts.take (i + 1)) = nameds (ts.take i) ++ named t := by
  rw [take_more h]
  generalize ts.take i = l
  induction l with
  | nil =>
    show named t ++ nameds [] = [] ++ named t
    simp [nameds]
  | cons u r ih =>
    show named u ++ nameds (r ++ [t]) = (named u ++ nameds r) ++ named t
    rw [ih, List.append_assoc]
def NB : Nat → Nat
  | 0 => 1
  | d + 1 => 3 * NB d + 1
theorem NB_one : ∀ d, 1 ≤ NB d
  | 0 => Nat.le_refl 1
  | d + 1 => by show 1 ≤ 3 * NB d + 1; omega
theorem nameds_len {B : Nat} : ∀ {ts : List T}, (∀ t ∈ ts, (named t).length ≤ B) → (nameds ts).length ≤ ts.length * B
  | [], _ => Nat.zero_le _
  | t :: r, h => by
    have ih := nameds_len (ts := r) fun u hu => h u (List.mem_cons_of_mem _ hu)
    have h1 := h t List.mem_cons_self
    show (named t ++ nameds r).length ≤ _
    rw [List.length_append, List.length_cons, Nat.add_mul, Nat.one_mul]
    omega
theorem named_len {P : Str → Prop} : ∀ (d : Nat) {t : T}, TOk P d t → (named t).length ≤ NB d
  | d, .num _, _ => Nat.zero_le _
  | d, .name _, _ => NB_one d
  | 0, .gate _ _ _, h => h.elim
  | 0, .join _ _, h => h.elim
  | d + 1, .gate s n t, h => by
    have e := named_len d h.2.2.2
    show (named t).length + 1 ≤ 3 * NB d + 1
    omega
  | d + 1, .join k ts, h => by
    obtain ⟨h1, h2, h3⟩ := h
    have e := nameds_len (ts := ts) fun t ht => named_len d (h3 t ht)
    have e2 : ts.length * NB d ≤ 3 * NB d := Nat.mul_le_mul_right _ h2
    show (nameds ts).length ≤ 3 * NB d + 1
    omega
theorem NB_le : ∀ {d : Nat}, d ≤ 2 → NB d ≤ 13
  | 0, _ => by decide
  | 1, _ => by decide
  | 2, _ => by decide
  | _ + 3, h => by omega
/-- each once, in the order in which they stand first -/
def addN (acc : List Str) (s : Str) : List Str := if s ∈ acc then acc else acc ++ [s]
def once (l : List Str) : List Str := l.foldl addN []
theorem once_take {l : List Str} {i : Nat} {s : Str} (h : l[i]? = some s) : once (l.take (i + 1)) = addN (once (l.take i)) s := by
  unfold once
  rw [take_more h, List.foldl_append]
  rfl
theorem addN_len (acc : List Str) (s : Str) : (addN acc s).length ≤ acc.length + 1 := by
  unfold addN
  split
  · omega
  · rw [List.length_append, List.length_singleton]; omega
theorem once_len (l : List Str) : (once l).length ≤ l.length := by
  have g : ∀ (l acc : List Str), (l.foldl addN acc).length ≤ acc.length + l.length := by
    intro l
    induction l with
    | nil => intro acc; exact Nat.le_refl _
    | cons s r ih =>
      intro acc
      have h1 := ih (addN acc s)
      have h2 := addN_len acc s
      rw [List.foldl_cons, List.length_cons]
      omega
  have := g l []
  simpa [once] using this
/-- the dict of the names, each with True -/
def nkvs (l : List Str) : List (Key × V) := l.map fun s => (Sum.inr s, .bl true)
theorem nkvs_put (l : List Str) (s : Str) : putK (nkvs l) (Sum.inr s) (.bl true) = nkvs (addN l s) := by
  unfold putK
  have e : ((nkvs l).any fun kv => decide (kv.1 = Sum.inr s)) = decide (s ∈ l) := by
    unfold nkvs
    rw [List.any_map]
    induction l with
    | nil => rfl
    | cons a r ih =>
      rw [List.any_cons, ih]
      show (decide ((Sum.inr a : Key) = Sum.inr s) || decide (s ∈ r)) = decide (s ∈ a :: r)
      by_cases c : a = s
      · subst c; simp
      · have c2 : ¬ (Sum.inr a : Key) = Sum.inr s := by intro z; exact c (Sum.inr.inj z)
        rw [decide_eq_false c2, Bool.false_or]
        have : (s ∈ a :: r) ↔ s ∈ r := by
          rw [List.mem_cons]
          exact ⟨fun h => h.elim (fun z => absurd z.symm c) id, .inr⟩
        exact decide_eq_decide.mpr this.symm
  rw [e]
  unfold addN
  by_cases c : s ∈ l
  · rw [decide_eq_true c, if_pos rfl, if_pos c]
    have : (nkvs l).map (fun kv => if kv.1 = (Sum.inr s : Key) then (kv.1, V.bl true) else kv) = nkvs l := by
      unfold nkvs
      rw [List.map_map]
      apply List.map_congr_left
      intro a _
      show (if (Sum.inr a : Key) = Sum.inr s then ((Sum.inr a : Key), V.bl true) else ((Sum.inr a : Key), V.bl true)) = _
      split <;> rfl
    exact this
  · rw [decide_eq_false c, if_neg Bool.false_ne_true, if_neg c]
    unfold nkvs
    rw [List.map_append]
    rfl
theorem nkvs_keys (l : List Str) : (nkvs l).map (fun kv => kV kv.1) = l.map V.str := by
  unfold nkvs
  rw [List.map_map]
  rfl
theorem dp_strs {K : PySem.W.Frag} {H : Hp} : ∀ (l : List Str), DpAll K H (l.map V.str) (l.map PyData.str)
  | [] => .nil
  | s :: r => .cons (.str s) (dp_strs r)
theorem in_strs (s : Str) (l : List Str) : inV (.str s) (l.map V.str) = decide (s ∈ l) := by
  unfold inV
  rw [List.any_map]
  induction l with
  | nil => rfl
  | cons a r ih =>
    rw [List.any_cons, ih]
    show ((a == s) || decide (s ∈ r)) = decide (s ∈ a :: r)
    by_cases c : a = s
    · subst c; simp
    · have e : (a == s) = false := beq_eq_false_iff_ne.mpr c
      rw [e, Bool.false_or]
      have : (s ∈ a :: r) ↔ s ∈ r := by
        rw [List.mem_cons]
        exact ⟨fun h => h.elim (fun z => absurd z.symm c) id, .inr⟩
      exact decide_eq_decide.mpr this.symm
theorem flat_strs (l : List Str) : (l.map V.str).all flatV = true := by
  rw [List.all_map, List.all_eq_true]
  intro _ _
  rfl
theorem strOk_name {s : Str} (h : NameOk s) : PyData.strOk s = true := by
  unfold NameOk nameM at h
  have q := (Bool.and_eq_true_iff.mp h).2
  have q2 : ∀ c ∈ LET, c < 0x110000 := by decide +kernel
  unfold PyData.strOk
  rw [← Array.all_toList, List.all_eq_true]
  exact fun c hc => decide_eq_true (q2 c (of_decide_eq_true (List.all_eq_true.mp q c hc)))
theorem can_strs : ∀ (l : List Str), (∀ s ∈ l, NameOk s) → PyData.canLayAll0 (l.map PyData.str) = true
  | [], _ => by simp [PyData.canLayAll0]
  | s :: r, h => by
    show (PyData.canLay0 (.str s) && PyData.canLayAll0 (r.map PyData.str)) = true
    rw [can_strs r fun u hu => h u (List.mem_cons_of_mem _ hu), Bool.and_true]
    unfold PyData.canLay0
    exact strOk_name (h s List.mem_cons_self)
theorem depth_strs : ∀ (l : List Str), PyData.depthAll (l.map PyData.str) ≤ 1
  | [] => by show PyData.depthAll [] ≤ 1; unfold PyData.depthAll; omega
  | s :: r => by
    have ih := depth_strs r
    show max (PyData.depth (.str s)) (PyData.depthAll (r.map PyData.str)) ≤ 1
    have e : PyData.depth (.str s) ≤ 1 := by unfold PyData.depth; omega
    omega
theorem shaped_strs {l : List Str} (h : ∀ s ∈ l, NameOk s) : SeqAt.shaped (.list (l.map PyData.str)) = true := by
  unfold SeqAt.shaped
  have e1 : PyData.canLay0 (.list (l.map PyData.str)) = true := by unfold PyData.canLay0; exact can_strs l h
  have e2 : PyData.depth (.list (l.map PyData.str)) ≤ 64 := by
    have := depth_strs l
    unfold PyData.depth
    omega
  rw [e1, decide_eq_true e2]
  rfl
theorem eqv_strs {l : List Str} (h : ∀ s ∈ l, NameOk s) : PyData.eqv (.list (l.map PyData.str)) (.list (l.map PyData.str)) = true := by
  refine SeqAt.eqv_refl _ ?_
  unfold PyData.canLay0
  exact can_strs l h
mutual
theorem named_ok {P : Str → Prop} : ∀ (d : Nat) {t : T}, TOk P d t → ∀ s ∈ named t, P s
  | d, .num _, _, s, hs => by cases hs
  | d, .name z, h, s, hs => by rw [List.mem_singleton.mp hs]; exact h.name
  | 0, .gate _ _ _, h, _, _ => h.elim
  | 0, .join _ _, h, _, _ => h.elim
  | d + 1, .gate z n t, h, s, hs => by
    rcases List.mem_cons.mp hs with q | q
    · rw [q]; exact h.1
    · exact named_ok d h.2.2.2 s q
  | d + 1, .join k ts, h, s, hs => nameds_ok d h.2.2 s hs
theorem nameds_ok {P : Str → Prop} : ∀ (d : Nat) {ts : List T}, (∀ t ∈ ts, TOk P d t) → ∀ s ∈ nameds ts, P s
  | d, [], _, s, hs => by cases hs
  | d, t :: r, h, s, hs => by
    rcases List.mem_append.mp (show s ∈ named t ++ nameds r from hs) with q | q
    · exact named_ok d (h t List.mem_cons_self) s q
    · exact nameds_ok d (fun u hu => h u (List.mem_cons_of_mem _ hu)) s q
end
theorem addN_mem {acc : List Str} {s x : Str} (h : x ∈ addN acc s) : x ∈ acc ∨ x = s := by
  unfold addN at h
  split at h
  · exact .inl h
  · rcases List.mem_append.mp h with q | q
    · exact .inl q
    · exact .inr (List.mem_singleton.mp q)
theorem once_mem {l : List Str} {x : Str} (h : x ∈ once l) : x ∈ l := by
  have g : ∀ (l acc : List Str), x ∈ l.foldl addN acc → x ∈ acc ∨ x ∈ l := by
    intro l
    induction l with
    | nil => intro acc h; exact .inl h
    | cons s r ih =>
      intro acc h
      rcases ih _ h with q | q
      · rcases addN_mem q with z | z
        · exact .inl z
        · exact .inr (z ▸ List.mem_cons_self)
      · exact .inr (List.mem_cons_of_mem _ q)
  rcases g l [] h with q | q
  · cases q
  · exact q
end Aw

namespace Aw
open PySem L2
/-! ### dicts by names, lists: what stands for what -/
section
variable {α : Type}
abbrev AL (α : Type) := List (Str × α)
def alk : AL α → Str → Option α
  | [], _ => none
  | p :: r, s => if p.1 = s then some p.2 else alk r s
def akeys (m : AL α) : List Str := m.map (·.1)
def aput (m : AL α) (s : Str) (x : α) : AL α := if s ∈ akeys m then m.map (fun p => if p.1 = s then (p.1, x) else p) else m ++ [(s, x)]
def adel (m : AL α) (s : Str) : AL α := m.filter fun p => decide (p.1 ≠ s)
theorem alk_pos {p : Str × α} {r : AL α} {s : Str} (e : p.1 = s) : alk (p :: r) s = some p.2 := by unfold alk; rw [if_pos e]
theorem alk_neg {p : Str × α} {r : AL α} {s : Str} (e : ¬ p.1 = s) : alk (p :: r) s = alk r s := by
  show (if p.1 = s then some p.2 else alk r s) = alk r s
  rw [if_neg e]
theorem alk_none {m : AL α} {s : Str} : alk m s = none ↔ s ∉ akeys m := by
  induction m with
  | nil => exact ⟨fun _ h => (by cases h), fun _ => rfl⟩
  | cons p r ih =>
    show _ ↔ s ∉ p.1 :: akeys r
    by_cases e : p.1 = s
    · rw [alk_pos e]
      exact ⟨fun h => (by cases h), fun h => absurd (by rw [e]; exact List.mem_cons_self) h⟩
    · rw [alk_neg e, ih, List.mem_cons]
      exact ⟨fun h z => z.elim (fun q => e q.symm) h, fun h z => h (.inr z)⟩
theorem alk_some {m : AL α} {s : Str} : (alk m s).isSome = decide (s ∈ akeys m) := by
  cases e : alk m s with
  | none => rw [decide_eq_false (alk_none.mp e)]; rfl
  | some x =>
    rw [decide_eq_true]
    · rfl
    · exact Decidable.by_contra fun h => by rw [alk_none.mpr h] at e; cases e
theorem alk_mem {m : AL α} {s : Str} {x : α} (h : alk m s = some x) : (s, x) ∈ m := by
  induction m with
  | nil => cases h
  | cons q r ih =>
    by_cases e : q.1 = s
    · rw [alk_pos e] at h
      cases h
      subst e
      exact List.mem_cons_self
    · rw [alk_neg e] at h
      exact List.mem_cons_of_mem _ (ih h)
theorem mem_alk {m : AL α} (nd : (akeys m).Nodup) {p : Str × α} (h : p ∈ m) : alk m p.1 = some p.2 := by
  induction m with
  | nil => cases h
  | cons q r ih =>
    have nd' : (q.1 :: akeys r).Nodup := nd
    rw [List.nodup_cons] at nd'
    rcases List.mem_cons.mp h with e | e
    · rw [e]; exact alk_pos rfl
    · rw [alk_neg (fun z => nd'.1 (by rw [z]; exact List.mem_map_of_mem e))]
      exact ih nd'.2 e
theorem akeys_put (m : AL α) (s : Str) (x : α) : akeys (aput m s x) = if s ∈ akeys m then akeys m else akeys m ++ [s] := by
  unfold aput
  split
  · unfold akeys
    rw [List.map_map]
    refine List.map_congr_left fun p _ => ?_
    show (if p.1 = s then (p.1, x) else p).1 = p.1
    split <;> rfl
  · unfold akeys
    rw [List.map_append]
    rfl
theorem mem_akeys_put {m : AL α} {s z : Str} {x : α} : z ∈ akeys (aput m s x) ↔ z ∈ akeys m ∨ z = s := by
  rw [akeys_put]
  split
  · next c => exact ⟨.inl, fun h => h.elim id fun e => by rw [e]; exact c⟩
  · rw [List.mem_append, List.mem_singleton]
theorem anodup_put {m : AL α} (h : (akeys m).Nodup) (s : Str) (x : α) : (akeys (aput m s x)).Nodup := by
  rw [akeys_put]
  split
  · exact h
  · next c =>
    rw [List.nodup_append]
    exact ⟨h, by simp, fun a ha b hb z => c (by rw [List.mem_singleton.mp hb] at z; rw [← z]; exact ha)⟩
theorem akeys_del (m : AL α) (s : Str) : akeys (adel m s) = (akeys m).filter fun z => decide (z ≠ s) := by
  unfold akeys adel
  rw [List.filter_map]
  rfl
theorem anodup_del {m : AL α} (h : (akeys m).Nodup) (s : Str) : (akeys (adel m s)).Nodup := by
  rw [akeys_del]
  exact h.filter _
theorem mem_akeys_del {m : AL α} {s z : Str} : z ∈ akeys (adel m s) ↔ z ∈ akeys m ∧ z ≠ s := by
  rw [akeys_del, List.mem_filter, decide_eq_true_iff]
theorem alk_put (m : AL α) (s z : Str) (x : α) : alk (aput m s x) z = if z = s then some x else alk m z := by
  unfold aput
  by_cases c : s ∈ akeys m
  · rw [if_pos c]
    induction m with
    | nil => cases c
    | cons p r ih =>
      rw [List.map_cons]
      by_cases e : p.1 = s
      · rw [if_pos e]
        by_cases e2 : z = s
        · rw [if_pos e2, alk_pos (by rw [e, e2])]
        · rw [if_neg e2, alk_neg (p := (p.1, x)) (fun q => e2 (q.symm.trans e)), alk_neg (p := p) (fun q => e2 (q.symm.trans e))]
          by_cases c2 : s ∈ akeys r
          · rw [ih c2, if_neg e2]
          · rw [show r.map (fun p => if p.1 = s then (p.1, x) else p) = r from (List.map_congr_left fun q hq => if_neg fun w => c2 (by rw [← w]; exact List.mem_map_of_mem hq)).trans (List.map_id r)]
      · rw [if_neg e]
        have c2 : s ∈ akeys r := (List.mem_cons.mp c).resolve_left fun w => e w.symm
        by_cases e3 : p.1 = z
        · rw [alk_pos e3, alk_pos e3, if_neg (fun w => e (e3.trans w))]
        · rw [alk_neg e3, alk_neg e3, ih c2]
  · rw [if_neg c]
    induction m with
    | nil =>
      by_cases e2 : z = s
      · rw [if_pos e2]; exact alk_pos e2.symm
      · rw [if_neg e2]; exact alk_neg (fun w => e2 w.symm)
    | cons p r ih =>
      have c' : s ∉ p.1 :: akeys r := c
      rw [List.mem_cons, not_or] at c'
      rw [List.cons_append]
      by_cases e3 : p.1 = z
      · rw [alk_pos e3, alk_pos e3, if_neg (fun w => c'.1 (w.symm.trans e3.symm))]
      · rw [alk_neg e3, alk_neg e3, ih c'.2]
theorem alk_del (m : AL α) (s z : Str) : alk (adel m s) z = if z = s then none else alk m z := by
  induction m with
  | nil =>
    show none = _
    split <;> rfl
  | cons p r ih =>
    unfold adel at ih ⊢
    by_cases e : p.1 = s
    · rw [List.filter_cons_of_neg (by simp [e]), ih]
      by_cases e2 : z = s
      · rw [if_pos e2, if_pos e2]
      · rw [if_neg e2, if_neg e2, alk_neg (fun w => e2 (w.symm.trans e))]
    · rw [List.filter_cons_of_pos (by simp [e])]
      by_cases e3 : p.1 = z
      · rw [alk_pos e3, alk_pos e3, if_neg (fun w => e (e3.trans w))]
      · rw [alk_neg e3, alk_neg e3, ih]
theorem mem_aput {m : AL α} {s : Str} {x : α} {p : Str × α} (h : p ∈ aput m s x) : p ∈ m ∨ p = (s, x) := by
  unfold aput at h
  split at h
  · obtain ⟨q, hq, e⟩ := List.mem_map.mp h
    split at e
    · next c => rw [← e, c]; exact .inr rfl
    · rw [← e]; exact .inl hq
  · rcases List.mem_append.mp h with z | z
    · exact .inl z
    · exact .inr (List.mem_singleton.mp z)
theorem len_aput (m : AL α) (s : Str) (x : α) : (aput m s x).length = if s ∈ akeys m then m.length else m.length + 1 := by
  unfold aput
  split
  · rw [List.length_map]
  · rw [List.length_append]; rfl
/-! ### the relation -/
def DR (R : V → α → Prop) (kvs : List (Key × V)) (m : AL α) : Prop := Paired (fun (kv : Key × V) (p : Str × α) => kv.1 = Sum.inr p.1 ∧ R kv.2 p.2) kvs m
def LR (R : V → α → Prop) (vs : List V) (m : List α) : Prop := Paired R vs m
variable {R R' : V → α → Prop}
theorem DR.len {kvs : List (Key × V)} {m : AL α} (h : DR R kvs m) : kvs.length = m.length := Paired.length h
theorem LR.len {vs : List V} {m : List α} (h : LR R vs m) : vs.length = m.length := Paired.length h
theorem DR.keys {kvs : List (Key × V)} {m : AL α} (h : DR R kvs m) : kvs.map (·.1) = (akeys m).map Sum.inr := by
  unfold DR at h
  induction h with
  | nil => rfl
  | cons a _ ih =>
    rw [List.map_cons, ih, a.1]
    rfl
theorem DR.imp {kvs : List (Key × V)} {m : AL α} (h : DR R kvs m) (i : ∀ p ∈ m, ∀ v, R v p.2 → R' v p.2) : DR R' kvs m := by
  unfold DR at h ⊢
  induction h with
  | nil => exact .nil
  | cons a _ ih => exact .cons ⟨a.1, i _ List.mem_cons_self _ a.2⟩ (ih fun p hp => i p (List.mem_cons_of_mem _ hp))
theorem LR.imp {vs : List V} {m : List α} (h : LR R vs m) (i : ∀ p ∈ m, ∀ v, R v p → R' v p) : LR R' vs m := by
  unfold LR at h ⊢
  induction h with
  | nil => exact .nil
  | cons a _ ih => exact .cons (i _ List.mem_cons_self _ a) (ih fun p hp => i p (List.mem_cons_of_mem _ hp))
theorem LR.snoc {vs : List V} {m : List α} {v : V} {x : α} (h : LR R vs m) (r : R v x) : LR R (vs ++ [v]) (m ++ [x]) := by
  unfold LR at h ⊢
  induction h with
  | nil => exact .cons r .nil
  | cons a _ ih => exact .cons a ih
theorem LR.append {vs ws : List V} {m n : List α} (h : LR R vs m) (k : LR R ws n) : LR R (vs ++ ws) (m ++ n) := by
  unfold LR at h k ⊢
  induction h with
  | nil => exact k
  | cons a _ ih => exact .cons a ih
theorem LR.get {vs : List V} {m : List α} (h : LR R vs m) : ∀ {i : Nat} {v : V}, vs[i]? = some v → ∃ x, m[i]? = some x ∧ R v x := by
  unfold LR at h
  induction h with
  | nil => intro i v e; simp at e
  | cons a _ ih =>
    intro i v e
    cases i with
    | zero =>
      have q : _ = v := Option.some.inj e
      exact ⟨_, rfl, q ▸ a⟩
    | succ i =>
      obtain ⟨x, h1, h2⟩ := ih (i := i) (v := v) (by simpa using e)
      exact ⟨x, by simpa using h1, h2⟩
theorem DR.get {kvs : List (Key × V)} {m : AL α} (h : DR R kvs m) : ∀ {i : Nat} {k : Key} {v : V}, kvs[i]? = some (k, v) → ∃ s x, m[i]? = some (s, x) ∧ k = Sum.inr s ∧ R v x := by
  unfold DR at h
  induction h with
  | nil => intro i k v e; simp at e
  | cons a _ ih =>
    intro i k v e
    cases i with
    | zero =>
      have q := Option.some.inj e
      subst q
      exact ⟨_, _, rfl, a.1, a.2⟩
    | succ i =>
      obtain ⟨s, x, h1, h2, h3⟩ := ih (i := i) (k := k) (v := v) (by simpa using e)
      exact ⟨s, x, by simpa using h1, h2, h3⟩
theorem DR.val {kvs : List (Key × V)} {m : AL α} (h : DR R kvs m) (s : Str) : (valV kvs (Sum.inr s) = none ∧ alk m s = none) ∨ ∃ v x, valV kvs (Sum.inr s) = some v ∧ alk m s = some x ∧ R v x := by
  unfold DR at h
  induction h with
  | nil => exact .inl ⟨rfl, rfl⟩
  | @cons kv p _ _ a _ ih =>
    by_cases e : p.1 = s
    · refine .inr ⟨kv.2, p.2, valV_pos (by rw [a.1, e]), alk_pos e, a.2⟩
    · rw [valV_neg (fun z => e (Sum.inr.inj (a.1.symm.trans z))), alk_neg e]
      exact ih
theorem DR.some {kvs : List (Key × V)} {m : AL α} (h : DR R kvs m) {s : Str} {x : α} (e : alk m s = some x) : ∃ v, valV kvs (Sum.inr s) = some v ∧ R v x := by
  rcases h.val s with ⟨_, q⟩ | ⟨v, y, h1, h2, h3⟩
  · rw [e] at q; cases q
  · rw [e] at h2; cases h2; exact ⟨v, h1, h3⟩
theorem DR.none {kvs : List (Key × V)} {m : AL α} (h : DR R kvs m) {s : Str} (e : alk m s = none) : valV kvs (Sum.inr s) = none := by
  rcases h.val s with ⟨q, _⟩ | ⟨v, y, h1, h2, h3⟩
  · exact q
  · rw [e] at h2; cases h2
theorem DR.isS {kvs : List (Key × V)} {m : AL α} (h : DR R kvs m) (s : Str) : (valV kvs (Sum.inr s)).isSome = decide (s ∈ akeys m) := by
  rw [← alk_some]
  rcases h.val s with ⟨q, q2⟩ | ⟨v, y, h1, h2, h3⟩
  · rw [q, q2]; rfl
  · rw [h1, h2]; rfl
theorem DR.snoc {kvs : List (Key × V)} {m : AL α} {s : Str} {v : V} {x : α} (h : DR R kvs m) (r : R v x) : DR R (kvs ++ [(Sum.inr s, v)]) (m ++ [(s, x)]) := by
  unfold DR at h ⊢
  induction h with
  | nil => exact .cons ⟨rfl, r⟩ .nil
  | cons a _ ih => exact .cons a ih
theorem DR.put {kvs : List (Key × V)} {m : AL α} {s : Str} {v : V} {x : α} (h : DR R kvs m) (r : R v x) : DR R (putK kvs (Sum.inr s) v) (aput m s x) := by
  have ek : (kvs.any fun kv => decide (kv.1 = (Sum.inr s : Key))) = decide (s ∈ akeys m) := by
    unfold DR at h
    clear r
    induction h with
    | nil => rfl
    | @cons kv p ks ps a _ ih =>
      rw [List.any_cons, ih, a.1]
      show (decide ((Sum.inr p.1 : Key) = Sum.inr s) || decide (s ∈ akeys ps)) = decide (s ∈ p.1 :: akeys ps)
      by_cases c : p.1 = s
      · rw [c]; simp
      · rw [decide_eq_false (fun z => c (Sum.inr.inj z)), Bool.false_or]
        exact decide_eq_decide.mpr ⟨List.mem_cons_of_mem _, fun z => (List.mem_cons.mp z).resolve_left fun w => c w.symm⟩
  unfold putK aput
  rw [ek]
  by_cases c : s ∈ akeys m
  · rw [decide_eq_true c, if_pos rfl, if_pos c]
    clear ek c
    unfold DR at h ⊢
    induction h with
    | nil => exact .nil
    | @cons kv p ks ps a _ ih =>
      rw [List.map_cons, List.map_cons]
      refine .cons ?_ ih
      by_cases c : p.1 = s
      · rw [if_pos c, if_pos (by rw [a.1, c])]
        exact ⟨a.1, r⟩
      · rw [if_neg c, if_neg (fun z => c (Sum.inr.inj (a.1.symm.trans z)))]
        exact a
  · rw [decide_eq_false c, if_neg (by decide), if_neg c]
    exact h.snoc r
theorem DR.del {kvs : List (Key × V)} {m : AL α} {s : Str} (h : DR R kvs m) : DR R (dropK kvs (Sum.inr s)) (adel m s) := by
  unfold DR at h ⊢
  unfold dropK adel
  induction h with
  | nil => exact .nil
  | @cons kv p ks ps a _ ih =>
    by_cases c : p.1 = s
    · rw [List.filter_cons_of_neg (by rw [a.1, c]; simp), List.filter_cons_of_neg (by simp [c])]
      exact ih
    · rw [List.filter_cons_of_pos (by rw [a.1]; simpa using c), List.filter_cons_of_pos (by simpa using c)]
      exact .cons a ih
end
end Aw

namespace Aw
open PySem L2
/-! ### texts in order -/
open PySem.Spec in
theorem lt_irr : ∀ a : List Nat, ltCps a a = false
  | [] => rfl
  | x :: r => by unfold ltCps; simp [lt_irr r]
open PySem.Spec in
theorem lt_anti : ∀ a b : List Nat, ltCps a b = false → ltCps b a = false → a = b
  | [], [], _, _ => rfl
  | [], _ :: _, h, _ => by unfold ltCps at h; cases h
  | _ :: _, [], _, h => by unfold ltCps at h; cases h
  | x :: r, y :: t, h1, h2 => by
    unfold ltCps at h1 h2
    rcases Nat.lt_trichotomy x y with c | c | c
    · simp [c] at h1
    · subst c
      simp at h1 h2
      rw [lt_anti r t h1 h2]
    · simp [c] at h2
open PySem.Spec in
theorem le_trans' : ∀ a b c : List Nat, ltCps b a = false → ltCps c b = false → ltCps c a = false
  | a, b, [], h1, h2 => by
    cases b with
    | nil => cases a with
      | nil => rfl
      | cons => exact h1
    | cons => unfold ltCps at h2; cases h2
  | [], b, z :: t, h1, h2 => by unfold ltCps; rfl
  | x :: r, [], z :: t, h1, h2 => by unfold ltCps at h1; cases h1
  | x :: r, y :: s, z :: t, h1, h2 => by
    unfold ltCps at h1 h2 ⊢
    simp only [Bool.or_eq_false_iff, decide_eq_false_iff_not, Bool.and_eq_false_iff] at h1 h2 ⊢
    refine ⟨by omega, ?_⟩
    by_cases c : z = x
    · right
      have e1 : y = x := by omega
      have e2 : z = y := by omega
      rcases h1.2 with q | q
      · simp [e1] at q
      · rcases h2.2 with q' | q'
        · simp [e2] at q'
        · exact le_trans' r s t q q'
    · left; simpa using c
open PySem.Spec in
def sle (a b : Str) : Prop := ltCps b.cps.toList a.cps.toList = false
theorem sle_refl (a : Str) : sle a a := lt_irr _
theorem sle_trans {a b c : Str} (h1 : sle a b) (h2 : sle b c) : sle a c := le_trans' _ _ _ h1 h2
theorem str_ext {a b : Str} (h : a.cps.toList = b.cps.toList) : a = b := by
  cases a with | mk x => cases b with | mk y =>
  have : x = y := Array.toList_inj.mp h
  rw [this]
theorem sle_anti {a b : Str} (h1 : sle a b) (h2 : sle b a) : a = b := str_ext (lt_anti _ _ h2 h1)
theorem rising_pair : ∀ (r : List Str) (p : Str), PyProof.Rows.risingS p r = true → (p :: r).Pairwise sle
  | [], p, _ => List.pairwise_singleton _ _
  | x :: r, p, h => by
    unfold PyProof.Rows.risingS at h
    rw [Bool.and_eq_true] at h
    have h1 : sle p x := by simpa [sle] using h.1
    have ih := rising_pair r x h.2
    rw [List.pairwise_cons]
    refine ⟨fun y hy => ?_, ih⟩
    rcases List.mem_cons.mp hy with q | q
    · rw [q]; exact h1
    · exact sle_trans h1 ((List.pairwise_cons.mp ih).1 y q)
theorem sorted_pair {l : List Str} (h : PyProof.Rows.sortedS l = true) : l.Pairwise sle := by
  cases l with
  | nil => exact .nil
  | cons x r => exact rising_pair r x h
/-- two lists in order that are made of the same are the same -/
theorem srt_one {a b : List Str} (ha : a.Pairwise sle) (hb : b.Pairwise sle) (p : a.Perm b) : a = b := List.Perm.eq_of_pairwise (fun _ _ _ _ => sle_anti) ha hb p
theorem srt_same {a b : List Str} (ha : a.Pairwise sle) (hb : b.Pairwise sle) (na : a.Nodup) (nb : b.Nodup) (h : ∀ x, x ∈ a ↔ x ∈ b) : a = b := srt_one ha hb ((List.perm_ext_iff_of_nodup na nb).mpr h)
theorem addN_nodup {acc : List Str} (h : acc.Nodup) (s : Str) : (addN acc s).Nodup := by
  unfold addN
  split
  · exact h
  · next c =>
    rw [List.nodup_append]
    exact ⟨h, by simp, fun a ha b hb z => c (by rw [List.mem_singleton.mp hb] at z; rw [← z]; exact ha)⟩
theorem once_nodup (l : List Str) : (once l).Nodup := by
  have g : ∀ (l acc : List Str), acc.Nodup → (l.foldl addN acc).Nodup := by
    intro l
    induction l with
    | nil => intro acc h; exact h
    | cons s r ih => intro acc h; exact ih _ (addN_nodup h s)
  exact g l [] .nil
theorem mem_addN {acc : List Str} {s x : Str} : x ∈ addN acc s ↔ x ∈ acc ∨ x = s := by
  unfold addN
  split
  · next c => exact ⟨.inl, fun h => h.elim id fun e => by rw [e]; exact c⟩
  · rw [List.mem_append, List.mem_singleton]
theorem mem_once {l : List Str} {x : Str} : x ∈ once l ↔ x ∈ l := by
  have g : ∀ (l acc : List Str), x ∈ l.foldl addN acc ↔ x ∈ acc ∨ x ∈ l := by
    intro l
    induction l with
    | nil => intro acc; simp
    | cons s r ih =>
      intro acc
      rw [List.foldl_cons, ih, mem_addN, List.mem_cons]
      exact ⟨fun h => h.elim (fun q => q.elim .inl fun e => .inr (.inl e)) fun q => .inr (.inr q), fun h => h.elim (fun q => .inl (.inl q)) fun q => q.elim (fun e => .inl (.inr e)) .inr⟩
  have := g l []
  simpa [once] using this
theorem once_pair {l : List Str} (h : l.Pairwise sle) : (once l).Pairwise sle := by
  have g : ∀ (l acc : List Str), acc.Pairwise sle → l.Pairwise sle → (∀ a ∈ acc, ∀ b ∈ l, sle a b) → (l.foldl addN acc).Pairwise sle := by
    intro l
    induction l with
    | nil => intro acc h _ _; exact h
    | cons s r ih =>
      intro acc ha hl hb
      rw [List.pairwise_cons] at hl
      refine ih _ ?_ hl.2 fun a q b hb' => ?_
      · unfold addN
        split
        · exact ha
        · rw [List.pairwise_append]
          exact ⟨ha, List.pairwise_singleton _ _, fun a q b hb' => by rw [List.mem_singleton.mp hb']; exact hb a q s List.mem_cons_self⟩
      · rcases mem_addN.mp q with z | z
        · exact hb a z b (List.mem_cons_of_mem _ hb')
        · rw [z]; exact hl.1 b hb'
  exact g l [] .nil h fun a q => by cases q
end Aw

namespace Aw
open PySem L2
/-! ### a hall: what it is -/
/-- a run -/
structure Rn where
  nm : Str
  rd : List (Str × Int)
  an : Int
/-- a knot that is kept: the recipes, all runs -/
structure Kt where
  rc : AL T
  rn : AL (List Rn)
structure Hl where
  nums : AL Int
  recs : AL T
  kept : AL Kt
  unt : List Rn
  pts : List (AL Int × AL T × AL Kt)
def numOf (m : AL Int) (s : Str) : Int := (alk m s).getD 0
/-! ### where it stands -/
structure HA where
  p : Addr
  dx : Addr
  n : Addr
  r : Addr
  k : Addr
  u : Addr
  t : Addr
def HA.own (A : HA) (b : Addr) : Prop := b = A.p ∨ b = A.n ∨ b = A.r ∨ b = A.k ∨ b = A.u ∨ b = A.t
/-- the classes: hall, run, knot -/
structure HC where
  h : Addr
  r : Addr
  k : Addr
theorem s_nr : ¬ (("numbers" : Str) = "recipes") := by decide +kernel
theorem s_nk : ¬ (("numbers" : Str) = "kept") := by decide +kernel
theorem s_nu : ¬ (("numbers" : Str) = "untaken") := by decide +kernel
theorem s_np : ¬ (("numbers" : Str) = "points") := by decide +kernel
theorem s_rk : ¬ (("recipes" : Str) = "kept") := by decide +kernel
theorem s_ru : ¬ (("recipes" : Str) = "untaken") := by decide +kernel
theorem s_rp : ¬ (("recipes" : Str) = "points") := by decide +kernel
theorem s_ku : ¬ (("kept" : Str) = "untaken") := by decide +kernel
theorem s_kp : ¬ (("kept" : Str) = "points") := by decide +kernel
theorem s_up : ¬ (("untaken" : Str) = "points") := by decide +kernel
def hallF (A : HA) : List (Str × V) := [("numbers", .ref A.n), ("recipes", .ref A.r), ("kept", .ref A.k), ("untaken", .ref A.u), ("points", .ref A.t)]
theorem lku_pos {k : Str} {v : V} {r : List (Str × V)} : ((k, v) :: r).lookup k = some v := by rw [List.lookup_cons]; simp
theorem lku_neg {k a : Str} {v : V} {r : List (Str × V)} (h : ¬ k = a) : ((a, v) :: r).lookup k = r.lookup k := by
  rw [List.lookup_cons]
  have e : (k == a) = false := beq_eq_false_iff_ne.mpr h
  rw [e]
theorem hallF_n (A : HA) : (hallF A).lookup ("numbers" : Str) = some (.ref A.n) := lku_pos
theorem hallF_r (A : HA) : (hallF A).lookup ("recipes" : Str) = some (.ref A.r) := (lku_neg (Ne.symm s_nr)).trans lku_pos
theorem hallF_k (A : HA) : (hallF A).lookup ("kept" : Str) = some (.ref A.k) := (lku_neg (Ne.symm s_nk)).trans ((lku_neg (Ne.symm s_rk)).trans lku_pos)
theorem hallF_u (A : HA) : (hallF A).lookup ("untaken" : Str) = some (.ref A.u) := (lku_neg (Ne.symm s_nu)).trans ((lku_neg (Ne.symm s_ru)).trans ((lku_neg (Ne.symm s_ku)).trans lku_pos))
theorem hallF_t (A : HA) : (hallF A).lookup ("points" : Str) = some (.ref A.t) := (lku_neg (Ne.symm s_np)).trans ((lku_neg (Ne.symm s_rp)).trans ((lku_neg (Ne.symm s_kp)).trans ((lku_neg (Ne.symm s_up)).trans lku_pos)))
theorem hallF_no (A : HA) {m : Str} (h1 : ¬ m = "numbers") (h2 : ¬ m = "recipes") (h3 : ¬ m = "kept") (h4 : ¬ m = "untaken") (h5 : ¬ m = "points") : (hallF A).lookup m = none := by
  unfold hallF
  rw [lku_neg h1, lku_neg h2, lku_neg h3, lku_neg h4, lku_neg h5]
  rfl
theorem putF_pos {k : Str} {v w : V} {r : List (Str × V)} : putF k v ((k, w) :: r) = (k, v) :: r := by
  show (if k = k then _ else _) = _
  rw [if_pos rfl]
theorem putF_neg {k a : Str} {v w : V} {r : List (Str × V)} (h : ¬ a = k) : putF k v ((a, w) :: r) = (a, w) :: putF k v r := by
  show (if a = k then _ else _) = _
  rw [if_neg h]
theorem hallF_new (n r k u t : Addr) : putF "points" (.ref t) (putF "untaken" (.ref u) (putF "kept" (.ref k) (putF "recipes" (.ref r) (putF "numbers" (.ref n) [])))) = ([("numbers", V.ref n), ("recipes", V.ref r), ("kept", V.ref k), ("untaken", V.ref u), ("points", V.ref t)] : List (Str × V)) := by
  have e1 : putF "numbers" (.ref n) [] = ([("numbers", V.ref n)] : List (Str × V)) := rfl
  have e0 : ∀ (k : Str) (v : V), putF k v [] = [(k, v)] := fun _ _ => rfl
  rw [e1, putF_neg s_nr, e0, putF_neg s_nk, putF_neg s_rk, e0, putF_neg s_nu, putF_neg s_ru, putF_neg s_ku, e0, putF_neg s_np, putF_neg s_rp, putF_neg s_kp, putF_neg s_up, e0]
theorem hallF_putu (A : HA) (x : Addr) : putF "untaken" (.ref x) (hallF A) = hallF { A with u := x } := by
  unfold hallF
  rw [putF_neg s_nu, putF_neg s_ru, putF_neg s_ku, putF_pos]
theorem hallF_putn (A : HA) (x : Addr) : putF "numbers" (.ref x) (hallF A) = hallF { A with n := x } := by
  unfold hallF
  rw [putF_pos]
theorem hallF_putr (A : HA) (x : Addr) : putF "recipes" (.ref x) (hallF A) = hallF { A with r := x } := by
  unfold hallF
  rw [putF_neg s_nr, putF_pos]
theorem hallF_putk (A : HA) (x : Addr) : putF "kept" (.ref x) (hallF A) = hallF { A with k := x } := by
  unfold hallF
  rw [putF_neg s_nk, putF_neg s_rk, putF_pos]
def runF (nm : Str) (t : Addr) (an : Int) : List (Str × V) := [("name", .str nm), ("reads", .ref t), ("answer", .int an)]
def knotF (dr dn : Addr) : List (Str × V) := [("recipes", .ref dr), ("ran", .ref dn)]
/-! ### the relations -/
def IntV (v : V) (i : Int) : Prop := v = .int i
def PairAt (H : Hp) (v : V) (q : Str × Int) : Prop := ∃ a, v = .ref a ∧ H a = some (.tup [.str q.1, .int q.2])
def RunAt (C : HC) (W : Addr → Prop) (H : Hp) (v : V) (r : Rn) : Prop := ∃ a dx t ts, v = .ref a ∧ ¬ W a ∧ H a = some (.ins C.r dx (runF r.nm t r.an)) ∧ H t = some (.tup ts) ∧ LR (PairAt H) ts r.rd
def RunsAt (C : HC) (W : Addr → Prop) (H : Hp) (v : V) (rs : List Rn) : Prop := ∃ l vs, v = .ref l ∧ ¬ W l ∧ H l = some (.lst vs) ∧ LR (RunAt C W H) vs rs
def KnotAt (C : HC) (W : Addr → Prop) (H : Hp) (v : V) (k : Kt) : Prop := ∃ a dx dr dn kr kn, v = .ref a ∧ ¬ W a ∧ ¬ W dr ∧ ¬ W dn ∧ H a = some (.ins C.k dx (knotF dr dn)) ∧ H dr = some (.dK kr) ∧ DR (TA H) kr k.rc ∧ H dn = some (.dK kn) ∧ DR (RunsAt C W H) kn k.rn
def PointAt (C : HC) (W : Addr → Prop) (H : Hp) (v : V) (q : AL Int × AL T × AL Kt) : Prop := ∃ a d1 d2 d3 k1 k2 k3, v = .ref a ∧ H a = some (.tup [.ref d1, .ref d2, .ref d3]) ∧ ¬ W d1 ∧ ¬ W d2 ∧ ¬ W d3 ∧ H d1 = some (.dK k1) ∧ DR IntV k1 q.1 ∧ H d2 = some (.dK k2) ∧ DR (TA H) k2 q.2.1 ∧ H d3 = some (.dK k3) ∧ DR (KnotAt C W H) k3 q.2.2
/-- all that is no W, and every tuple, stays -/
def Fr (W : Addr → Prop) (H H' : Hp) : Prop := ∀ b o, H b = some o → (W b → ∃ xs, o = .tup xs) → H' b = some o
theorem Fr.refl (W : Addr → Prop) (H : Hp) : Fr W H H := fun _ _ h _ => h
theorem Fr.of_same {W : Addr → Prop} {H H' : Hp} (h : Same H H') : Fr W H H' := fun b o q _ => h b o q
theorem Fr.trans {W : Addr → Prop} {H H1 H2 : Hp} (a : Fr W H H1) (b : Fr W H1 H2) : Fr W H H2 := fun c o h k => b c o (a c o h k) k
theorem Fr.tups {W : Addr → Prop} {H H' : Hp} (h : Fr W H H') : Tups H H' := fun b xs q => h b _ q fun _ => ⟨xs, rfl⟩
theorem Fr.wide {W W' : Addr → Prop} {H H' : Hp} (h : Fr W H H') (s : ∀ b, W b → W' b) : Fr W' H H' := fun b o q k => h b o q fun w => k (s b w)
theorem Fr.no {W : Addr → Prop} {H H' : Hp} (h : Fr W H H') {b : Addr} {o : HO} (e : H b = some o) (n : ¬ W b) : H' b = some o := h b o e fun w => absurd w n
/-- a store at something that is no tuple -/
theorem Fr.upd {W : Addr → Prop} {H : Hp} {b : Addr} {u : HO} (w : W b) (n : ∀ xs, H b ≠ some (.tup xs)) : Fr W H (upd H b u) := fun c o q k => by
  by_cases e : c = b
  · subst e
    obtain ⟨xs, z⟩ := k w
    subst z
    exact absurd q (n xs)
  · rw [upd_ne e]; exact q
theorem PairAt.fr {W : Addr → Prop} {H H' : Hp} {v : V} {q : Str × Int} (h : PairAt H v q) (f : Fr W H H') : PairAt H' v q := by
  obtain ⟨a, e, q⟩ := h
  exact ⟨a, e, f.tups _ _ q⟩
theorem RunAt.fr {C : HC} {W : Addr → Prop} {H H' : Hp} {v : V} {r : Rn} (h : RunAt C W H v r) (f : Fr W H H') : RunAt C W H' v r := by
  obtain ⟨a, dx, t, ts, e, n, q, qt, l⟩ := h
  exact ⟨a, dx, t, ts, e, n, f.no q n, f.tups _ _ qt, l.imp fun _ _ _ z => z.fr f⟩
theorem RunsAt.fr {C : HC} {W : Addr → Prop} {H H' : Hp} {v : V} {rs : List Rn} (h : RunsAt C W H v rs) (f : Fr W H H') : RunsAt C W H' v rs := by
  obtain ⟨l, vs, e, n, q, r⟩ := h
  exact ⟨l, vs, e, n, f.no q n, r.imp fun _ _ _ z => z.fr f⟩
theorem KnotAt.fr {C : HC} {W : Addr → Prop} {H H' : Hp} {v : V} {k : Kt} (h : KnotAt C W H v k) (f : Fr W H H') : KnotAt C W H' v k := by
  obtain ⟨a, dx, dr, dn, kr, kn, e, n1, n2, n3, q, q1, d1, q2, d2⟩ := h
  exact ⟨a, dx, dr, dn, kr, kn, e, n1, n2, n3, f.no q n1, f.no q1 n2, d1.imp fun _ _ _ z => z.mono f.tups, f.no q2 n3, d2.imp fun _ _ _ z => z.fr f⟩
theorem PointAt.fr {C : HC} {W : Addr → Prop} {H H' : Hp} {v : V} {q : AL Int × AL T × AL Kt} (h : PointAt C W H v q) (f : Fr W H H') : PointAt C W H' v q := by
  obtain ⟨a, d1, d2, d3, k1, k2, k3, e, q0, n1, n2, n3, q1, r1, q2, r2, q3, r3⟩ := h
  exact ⟨a, d1, d2, d3, k1, k2, k3, e, f.tups _ _ q0, n1, n2, n3, f.no q1 n1, r1, f.no q2 n2, r2.imp fun _ _ _ z => z.mono f.tups, f.no q3 n3, r3.imp fun _ _ _ z => z.fr f⟩
/-- others may write now at what was not there -/
def Nw (W W' : Addr → Prop) (H : Hp) : Prop := ∀ b, W' b → W b ∨ H b = none
theorem Nw.no {W W' : Addr → Prop} {H : Hp} (h : Nw W W' H) {b : Addr} {o : HO} (n : ¬ W b) (e : H b = some o) : ¬ W' b := fun w => (h b w).elim n fun z => by rw [e] at z; cases z
theorem RunAt.nw {C : HC} {W W' : Addr → Prop} {H : Hp} {v : V} {r : Rn} (h : RunAt C W H v r) (f : Nw W W' H) : RunAt C W' H v r := by
  obtain ⟨a, dx, t, ts, e, n, q, qt, l⟩ := h
  exact ⟨a, dx, t, ts, e, f.no n q, q, qt, l⟩
theorem RunsAt.nw {C : HC} {W W' : Addr → Prop} {H : Hp} {v : V} {rs : List Rn} (h : RunsAt C W H v rs) (f : Nw W W' H) : RunsAt C W' H v rs := by
  obtain ⟨l, vs, e, n, q, r⟩ := h
  exact ⟨l, vs, e, f.no n q, q, r.imp fun _ _ _ z => z.nw f⟩
theorem KnotAt.nw {C : HC} {W W' : Addr → Prop} {H : Hp} {v : V} {k : Kt} (h : KnotAt C W H v k) (f : Nw W W' H) : KnotAt C W' H v k := by
  obtain ⟨a, dx, dr, dn, kr, kn, e, n1, n2, n3, q, q1, d1, q2, d2⟩ := h
  exact ⟨a, dx, dr, dn, kr, kn, e, f.no n1 q, f.no n2 q1, f.no n3 q2, q, q1, d1, q2, d2.imp fun _ _ _ z => z.nw f⟩
theorem PointAt.nw {C : HC} {W W' : Addr → Prop} {H : Hp} {v : V} {q : AL Int × AL T × AL Kt} (h : PointAt C W H v q) (f : Nw W W' H) : PointAt C W' H v q := by
  obtain ⟨a, d1, d2, d3, k1, k2, k3, e, q0, n1, n2, n3, q1, r1, q2, r2, q3, r3⟩ := h
  exact ⟨a, d1, d2, d3, k1, k2, k3, e, q0, f.no n1 q1, f.no n2 q2, f.no n3 q3, q1, r1, q2, r2, q3, r3.imp fun _ _ _ z => z.nw f⟩
/-- a hall stands there; W: what somebody may write -/
structure HallAt (C : HC) (W : Addr → Prop) (H : Hp) (A : HA) (h : Hl) : Prop where
  ob : H A.p = some (.ins C.h A.dx (hallF A))
  n : ∃ kvs, H A.n = some (.dK kvs) ∧ DR IntV kvs h.nums
  r : ∃ kvs, H A.r = some (.dK kvs) ∧ DR (TA H) kvs h.recs
  k : ∃ kvs, H A.k = some (.dK kvs) ∧ DR (KnotAt C W H) kvs h.kept
  u : ∃ vs, H A.u = some (.lst vs) ∧ LR (RunAt C W H) vs h.unt
  t : ∃ vs, H A.t = some (.lst vs) ∧ LR (PointAt C W H) vs h.pts
  nr : A.n ≠ A.r
  nk : A.n ≠ A.k
  rk : A.r ≠ A.k
  ut : A.u ≠ A.t
  own : ∀ b, A.own b → W b
section
variable {C : HC} {W W' : Addr → Prop} {H H' : Hp} {A : HA} {h : Hl}
/-- what the hall stands on stays, all others but W's too -/
theorem HallAt.fr (a : HallAt C W H A h) (f : Fr W H H') (k : ∀ b, A.own b → H' b = H b) : HallAt C W H' A h := by
  obtain ⟨kn, en, dn⟩ := a.n
  obtain ⟨kr, er, dr⟩ := a.r
  obtain ⟨kk, ek, dk⟩ := a.k
  obtain ⟨vu, eu, lu⟩ := a.u
  obtain ⟨vt, et, lt⟩ := a.t
  exact ⟨(k _ (.inl rfl)).trans a.ob, ⟨kn, (k _ (.inr (.inl rfl))).trans en, dn⟩, ⟨kr, (k _ (.inr (.inr (.inl rfl)))).trans er, dr.imp fun _ _ _ z => z.mono f.tups⟩, ⟨kk, (k _ (.inr (.inr (.inr (.inl rfl))))).trans ek, dk.imp fun _ _ _ z => z.fr f⟩,
    ⟨vu, (k _ (.inr (.inr (.inr (.inr (.inl rfl)))))).trans eu, lu.imp fun _ _ _ z => z.fr f⟩, ⟨vt, (k _ (.inr (.inr (.inr (.inr (.inr rfl)))))).trans et, lt.imp fun _ _ _ z => z.fr f⟩, a.nr, a.nk, a.rk, a.ut, a.own⟩
theorem HallAt.there (a : HallAt C W H A h) {b : Addr} (o : A.own b) : ∃ u, H b = some u ∧ ∀ xs, u ≠ .tup xs := by
  obtain ⟨kn, en, _⟩ := a.n
  obtain ⟨kr, er, _⟩ := a.r
  obtain ⟨kk, ek, _⟩ := a.k
  obtain ⟨vu, eu, _⟩ := a.u
  obtain ⟨vt, et, _⟩ := a.t
  rcases o with z | z | z | z | z | z <;> subst z
  · exact ⟨_, a.ob, fun xs e => by cases e⟩
  · exact ⟨_, en, fun xs e => by cases e⟩
  · exact ⟨_, er, fun xs e => by cases e⟩
  · exact ⟨_, ek, fun xs e => by cases e⟩
  · exact ⟨_, eu, fun xs e => by cases e⟩
  · exact ⟨_, et, fun xs e => by cases e⟩
theorem HallAt.same (a : HallAt C W H A h) (s : Same H H') : HallAt C W H' A h := a.fr (Fr.of_same s) fun b o => by
  obtain ⟨u, e, _⟩ := a.there o
  rw [e, s _ _ e]
theorem HallAt.nw (a : HallAt C W H A h) (f : Nw W W' H) (own : ∀ b, A.own b → W' b) : HallAt C W' H A h := by
  obtain ⟨kk, ek, dk⟩ := a.k
  obtain ⟨vu, eu, lu⟩ := a.u
  obtain ⟨vt, et, lt⟩ := a.t
  exact ⟨a.ob, a.n, a.r, ⟨kk, ek, dk.imp fun _ _ _ z => z.nw f⟩, ⟨vu, eu, lu.imp fun _ _ _ z => z.nw f⟩, ⟨vt, et, lt.imp fun _ _ _ z => z.nw f⟩, a.nr, a.nk, a.rk, a.ut, own⟩
theorem HallAt.notup (a : HallAt C W H A h) {b : Addr} (o : A.own b) : ∀ xs, H b ≠ some (.tup xs) := fun xs e => by
  obtain ⟨u, q, n⟩ := a.there o
  rw [q] at e
  exact n xs (Option.some.inj e)
end
end Aw

namespace Aw
open PySem L2
/-! ### the words of a written tree -/
def Kd.rk : Kd → Nat
  | .most => 1
  | .least => 2
  | .sum => 3
theorem Kd.rk_rank (k : Kd) : k.rank = (k.rk : Int) := by cases k <;> rfl
mutual
def ww (f : Nat) : T → List Str
  | .num n => [tx n]
  | .name s => [s]
  | .gate s b t => "[" :: s :: tx b :: "]" :: ww 4 t
  | .join k ts => if k.rk < f then "(" :: (wws (k.rk + 1) k.sg ts ++ ([(")" : Str)] : List Str)) else wws (k.rk + 1) k.sg ts
def wws (f : Nat) (sg : Str) : List T → List Str
  | [] => []
  | t :: r => ww f t ++ wwr f sg r
def wwr (f : Nat) (sg : Str) : List T → List Str
  | [] => []
  | t :: r => sg :: (ww f t ++ wwr f sg r)
end
/-! ### the lexer over a written tree -/
theorem str_eta (z : Str) : (⟨z.cps.toList.toArray⟩ : Str) = z := by cases z; rfl
theorem lex_other {c : Nat} (h : kindM c = some .other) (r : List Nat) (ws : List Str) (b : Kn) : lexGo (c :: r) ws b = lexGo r (ws ++ [sg1 c]) .other := by
  conv => lhs; unfold lexGo
  rw [h]
  show lexGo r (lexStep (ws, b) c .other) .other = _
  unfold lexStep
  rw [if_neg (by rintro ⟨_, h | h⟩ <;> cases h), if_pos (by intro z; cases z)]
theorem lex_blank {c : Nat} (h : kindM c = some .blank) (r : List Nat) (ws : List Str) (b : Kn) : lexGo (c :: r) ws b = lexGo r ws .blank := by
  conv => lhs; unfold lexGo
  rw [h]
  show lexGo r (lexStep (ws, b) c .blank) .blank = _
  unfold lexStep
  rw [if_neg (by rintro ⟨_, h | h⟩ <;> cases h), if_neg (by intro z; exact z rfl)]
def Sep (b : Kn) : Prop := b = .other ∨ b = .blank
/-- the signs of one kind in a row -/
theorem lex_more {k : Kn} (hk : k = .letter ∨ k = .figure) (rest : List Nat) (ws : List Str) : ∀ (cs : List Nat) (z : Str), (∀ c ∈ cs, kindM c = some k) → lexGo (cs ++ rest) (ws ++ [z]) k = lexGo rest (ws ++ [z ++ ⟨cs.toArray⟩]) k
  | [], z, _ => by
    have e : z ++ (⟨([] : List Nat).toArray⟩ : Str) = z := by
      show (⟨z.cps ++ #[]⟩ : Str) = z
      rw [Array.append_empty]
    rw [e]
    rfl
  | c :: r, z, h => by
    rw [List.cons_append]
    conv => lhs; unfold lexGo
    rw [h c List.mem_cons_self]
    show lexGo (r ++ rest) (lexStep (ws ++ [z], k) c k) k = _
    have e : lexStep (ws ++ [z], k) c k = ws ++ [z ++ sg1 c] := by
      unfold lexStep
      rw [if_pos ⟨rfl, hk⟩]
      unfold addLast
      dsimp only
      have hl : (ws ++ [z]).length - 1 = ws.length := by rw [List.length_append, List.length_singleton]; omega
      have hw : wd (ws ++ [z]) ws.length = z := by
        unfold wd
        rw [List.getD_eq_getElem?_getD, List.getElem?_append_right (Nat.le_refl _), Nat.sub_self]
        rfl
      rw [hl, hw, List.set_append_right _ _ (Nat.le_refl _), Nat.sub_self]
      rfl
    rw [e, lex_more hk rest ws r (z ++ sg1 c) fun x hx => h x (List.mem_cons_of_mem _ hx)]
    congr 3
    show (⟨(z.cps ++ #[c]) ++ r.toArray⟩ : Str) = ⟨z.cps ++ (c :: r).toArray⟩
    congr 1
    rw [Array.append_assoc]
    congr 1
    simp
theorem lex_word {k : Kn} (hk : k = .letter ∨ k = .figure) {z : Str} (hz : 1 ≤ z.length) (h : ∀ c ∈ z.cps.toList, kindM c = some k) (rest : List Nat) (ws : List Str) {b : Kn} (hb : Sep b) : lexGo (z.cps.toList ++ rest) ws b = lexGo rest (ws ++ [z]) k := by
  cases e : z.cps.toList with
  | nil =>
    have : z.length = z.cps.toList.length := (Array.length_toList).symm
    rw [e] at this
    rw [this] at hz
    exact absurd hz (by decide)
  | cons c r =>
    rw [e] at h
    rw [List.cons_append]
    conv => lhs; unfold lexGo
    rw [h c List.mem_cons_self]
    show lexGo (r ++ rest) (lexStep (ws, b) c k) k = _
    have e1 : lexStep (ws, b) c k = ws ++ [sg1 c] := by
      unfold lexStep
      rw [if_neg (by rintro ⟨q, _⟩; dsimp only at q; subst q; rcases hb with q | q <;> rcases hk with p | p <;> (rw [p] at q; cases q)), if_pos (by intro q; subst q; rcases hk with p | p <;> cases p)]
    rw [e1, lex_more hk rest ws r (sg1 c) fun x hx => h x (List.mem_cons_of_mem _ hx)]
    congr 3
    show (⟨#[c] ++ r.toArray⟩ : Str) = z
    rw [← str_eta z, e]
    congr 1
    simp
theorem kind_let {c : Nat} (h : c ∈ LET) : kindM c = some .letter := by unfold kindM; rw [if_pos h]
theorem kind_fig {c : Nat} (h : c ∈ FIG) : kindM c = some .figure := by
  have q : ∀ c ∈ FIG, kindM c = some .figure := by decide +kernel
  exact q c h
theorem name_facts {s : Str} (h : NameOk s) : 1 ≤ s.length ∧ s.length ≤ 6 ∧ ∀ c ∈ s.cps.toList, c ∈ LET := by
  unfold NameOk nameM at h
  have q := Bool.and_eq_true_iff.mp h
  have q1 := of_decide_eq_true q.1
  exact ⟨q1.1, q1.2, fun c hc => of_decide_eq_true (List.all_eq_true.mp q.2 c hc)⟩
theorem lex_name {s : Str} (h : NameOk s) (rest : List Nat) (ws : List Str) {b : Kn} (hb : Sep b) : lexGo (s.cps.toList ++ rest) ws b = lexGo rest (ws ++ [s]) .letter := by
  obtain ⟨h1, _, h3⟩ := name_facts h
  exact lex_word (.inl rfl) h1 (fun c hc => kind_let (h3 c hc)) rest ws hb
theorem num_facts {n : Int} (h : 0 ≤ n ∧ n ≤ 30) : 1 ≤ (tx n).length ∧ (∀ c ∈ (tx n).cps.toList, c ∈ FIG) ∧ numM 0 (tx n) = some n ∧ nameM (tx n) = false ∧ ¬ tx n = "(" ∧ ¬ tx n = "[" := by
  have q : ∀ k : Nat, k < 31 → 1 ≤ (tx (k : Int)).length ∧ (∀ c ∈ (tx (k : Int)).cps.toList, c ∈ FIG) ∧ numM 0 (tx (k : Int)) = some (k : Int) ∧ nameM (tx (k : Int)) = false ∧ ¬ tx (k : Int) = "(" ∧ ¬ tx (k : Int) = "[" := by decide +kernel
  have e := q n.toNat (by omega)
  rwa [show ((n.toNat : Nat) : Int) = n by omega] at e
theorem bound_facts {n : Int} (h : 1 ≤ n ∧ n ≤ 30) : numM 1 (tx n) = some n := by
  have q : ∀ k : Nat, k < 31 → 1 ≤ k → numM 1 (tx (k : Int)) = some (k : Int) := by decide +kernel
  have e := q n.toNat (by omega) (by omega)
  rwa [show ((n.toNat : Nat) : Int) = n by omega] at e
theorem lex_num {n : Int} (h : 0 ≤ n ∧ n ≤ 30) (rest : List Nat) (ws : List Str) {b : Kn} (hb : Sep b) : lexGo ((tx n).cps.toList ++ rest) ws b = lexGo rest (ws ++ [tx n]) .figure := by
  obtain ⟨h1, h3, _⟩ := num_facts h
  exact lex_word (.inr rfl) h1 (fun c hc => kind_fig (h3 c hc)) rest ws hb
theorem cps_app (a b : Str) : (a ++ b).cps.toList = a.cps.toList ++ b.cps.toList := by
  show (a.cps ++ b.cps).toList = _
  rw [Array.toList_append]
theorem lex_sep (k : Kd) (rest : List Nat) (ws : List Str) (b : Kn) : lexGo (k.sep.cps.toList ++ rest) ws b = lexGo rest (ws ++ [k.sg]) .blank := by
  have e : k.sep.cps.toList = [32] ++ k.sg.cps.toList ++ [32] := by cases k <;> decide +kernel
  obtain ⟨c, h1, h2, h3⟩ : ∃ c, k.sg.cps.toList = [c] ∧ kindM c = some .other ∧ sg1 c = k.sg := by
    cases k
    · exact ⟨43, by decide +kernel⟩
    · exact ⟨38, by decide +kernel⟩
    · exact ⟨124, by decide +kernel⟩
  rw [e, h1]
  show lexGo (32 :: c :: 32 :: rest) ws b = _
  rw [lex_blank (by decide +kernel), lex_other h2, lex_blank (by decide +kernel), h3]
theorem lex_open (rest : List Nat) (ws : List Str) (b : Kn) : lexGo (("(" : Str).cps.toList ++ rest) ws b = lexGo rest (ws ++ ([("(" : Str)] : List Str)) .other := by
  rw [show ("(" : Str).cps.toList = [40] by decide +kernel]
  show lexGo (40 :: rest) ws b = _
  rw [lex_other (by decide +kernel), show sg1 40 = "(" by decide +kernel]
theorem lex_close (rest : List Nat) (ws : List Str) (b : Kn) : lexGo ((")" : Str).cps.toList ++ rest) ws b = lexGo rest (ws ++ ([(")" : Str)] : List Str)) .other := by
  rw [show (")" : Str).cps.toList = [41] by decide +kernel]
  show lexGo (41 :: rest) ws b = _
  rw [lex_other (by decide +kernel), show sg1 41 = ")" by decide +kernel]
theorem lex_gopen (rest : List Nat) (ws : List Str) (b : Kn) : lexGo (("[" : Str).cps.toList ++ rest) ws b = lexGo rest (ws ++ ([("[" : Str)] : List Str)) .other := by
  rw [show ("[" : Str).cps.toList = [91] by decide +kernel]
  show lexGo (91 :: rest) ws b = _
  rw [lex_other (by decide +kernel), show sg1 91 = "[" by decide +kernel]
theorem lex_gclose (rest : List Nat) (ws : List Str) (b : Kn) : lexGo (("] " : Str).cps.toList ++ rest) ws b = lexGo rest (ws ++ ([("]" : Str)] : List Str)) .blank := by
  rw [show ("] " : Str).cps.toList = [93, 32] by decide +kernel]
  show lexGo (93 :: 32 :: rest) ws b = _
  rw [lex_other (by decide +kernel), lex_blank (by decide +kernel), show sg1 93 = "]" by decide +kernel]
theorem lex_sp (rest : List Nat) (ws : List Str) (b : Kn) : lexGo ((" " : Str).cps.toList ++ rest) ws b = lexGo rest ws .blank := by
  rw [show (" " : Str).cps.toList = [32] by decide +kernel]
  show lexGo (32 :: rest) ws b = _
  rw [lex_blank (by decide +kernel)]
/-- the text z, from a place between words on, is the words W -/
def Lx (z : Str) (W : List Str) : Prop := ∀ (rest : List Nat) (ws : List Str) (b : Kn), Sep b → ∃ b', lexGo (z.cps.toList ++ rest) ws b = lexGo rest (ws ++ W) b'
theorem lx_wrs {k : Kd} {f : Nat} : ∀ {ts : List T}, ts ≠ [] → (∀ t ∈ ts, Lx (wr (f : Int) t) (ww f t)) → Lx (wrs k.sep (f : Int) ts) (wws f k.sg ts)
  | [], h, _ => absurd rfl h
  | [t], _, h => by
    rw [wrs_one]
    show Lx _ (ww f t ++ [])
    rw [List.append_nil]
    exact h t (List.mem_singleton.mpr rfl)
  | t :: u :: r, _, h => by
    rw [wrs_two]
    intro rest ws b hb
    obtain ⟨b1, e1⟩ := h t List.mem_cons_self (k.sep.cps.toList ++ ((wrs k.sep (f : Int) (u :: r)).cps.toList ++ rest)) ws b hb
    obtain ⟨b2, e2⟩ := lx_wrs (ts := u :: r) (k := k) (f := f) (by intro z; cases z) (fun t ht => h t (List.mem_cons_of_mem _ ht)) rest (ws ++ ww f t ++ [k.sg]) .blank (.inr rfl)
    refine ⟨b2, ?_⟩
    rw [cps_app, cps_app, List.append_assoc, List.append_assoc, e1, lex_sep, e2]
    congr 1
    show _ = ws ++ (ww f t ++ (k.sg :: (ww f u ++ wwr f k.sg r)))
    simp [wws]
theorem lx_wr : ∀ (d : Nat) {t : T} (f : Nat), TOk NameOk d t → Lx (wr (f : Int) t) (ww f t)
  | d, .num n, f, h => fun rest ws b hb => ⟨.figure, by
      unfold wr ww
      exact lex_num h.num rest ws hb⟩
  | d, .name s, f, h => fun rest ws b hb => ⟨.letter, by
      unfold wr ww
      exact lex_name h.name rest ws hb⟩
  | 0, .gate _ _ _, _, h => h.elim
  | 0, .join _ _, _, h => h.elim
  | d + 1, .gate s n t, f, h => fun rest ws b hb => by
    obtain ⟨h1, h2, h3, h4⟩ := h
    obtain ⟨b', e⟩ := lx_wr d 4 h4 rest (ws ++ ([("[" : Str)] : List Str) ++ [s] ++ [tx n] ++ ([("]" : Str)] : List Str)) .blank (.inr rfl)
    refine ⟨b', ?_⟩
    unfold wr ww
    rw [cps_app, cps_app, cps_app, cps_app, cps_app]
    simp only [List.append_assoc]
    rw [lex_gopen, lex_name h1 _ _ (.inl rfl), lex_sp, lex_num ⟨by omega, h3⟩ _ _ (.inr rfl), lex_gclose]
    rw [show ((4 : Nat) : Int) = 4 from rfl] at e
    rw [e]
    congr 1
    simp
  | d + 1, .join k ts, f, h => fun rest ws b hb => by
    obtain ⟨h1, h2, h3⟩ := h
    have hne : ts ≠ [] := by intro z; subst z; simp at h1
    have L : Lx (wrs k.sep (k.rank + 1) ts) (wws (k.rk + 1) k.sg ts) := by
      have q := lx_wrs (k := k) (f := k.rk + 1) hne fun t ht => lx_wr d (k.rk + 1) (h3 t ht)
      rw [show (((k.rk + 1 : Nat)) : Int) = k.rank + 1 by rw [Kd.rk_rank]; omega] at q
      exact q
    unfold wr ww
    by_cases c : k.rk < f
    · rw [if_pos c, if_pos (by rw [Kd.rk_rank]; omega)]
      obtain ⟨b', e⟩ := L ((")" : Str).cps.toList ++ rest) (ws ++ ([("(" : Str)] : List Str)) .other (.inl rfl)
      refine ⟨.other, ?_⟩
      rw [cps_app, cps_app]
      simp only [List.append_assoc]
      rw [lex_open, e, lex_close]
      congr 1
      simp
    · rw [if_neg c, if_neg (by rw [Kd.rk_rank]; omega)]
      exact L rest ws b hb
theorem lexM_wr {d : Nat} {t : T} (h : TOk NameOk d t) : lexM (wr 0 t) = some (ww 0 t) := by
  obtain ⟨b, e⟩ := lx_wr d 0 h [] [] .blank (.inr rfl)
  unfold lexM
  rw [List.append_nil] at e
  rw [show ((0 : Nat) : Int) = 0 from rfl] at e
  rw [e, List.nil_append]
  unfold lexGo
  rfl
end Aw

namespace Aw
open PySem L2
/-! ### the parser over the words of a written tree -/
def At (ws : List Str) : Nat → List Str → Prop
  | _, [] => True
  | i, a :: r => wd ws i = a ∧ At ws (i + 1) r
theorem At.left {ws : List Str} : ∀ {A B : List Str} {i : Nat}, At ws i (A ++ B) → At ws i A
  | [], _, _, _ => True.intro
  | _ :: A, B, _, h => ⟨h.1, At.left (A := A) (B := B) h.2⟩
theorem At.right {ws : List Str} : ∀ {A B : List Str} {i : Nat}, At ws i (A ++ B) → At ws (i + A.length) B
  | [], _, _, h => h
  | a :: A, B, i, h => by
    have q := At.right (A := A) (B := B) h.2
    rwa [show i + 1 + A.length = i + (a :: A).length by rw [List.length_cons]; omega] at q
theorem At.self (pre : List Str) : ∀ (W : List Str), At (pre ++ W) pre.length W
  | [] => True.intro
  | a :: r => by
    refine ⟨?_, ?_⟩
    · unfold wd
      rw [List.getD_eq_getElem?_getD, List.getElem?_append_right (Nat.le_refl _), Nat.sub_self]
      rfl
    · have q := At.self (pre ++ [a]) r
      rw [List.append_assoc, List.length_append, List.length_singleton] at q
      exact q
def ks : Nat → List Kd
  | 0 => kinds
  | 1 => kinds
  | 2 => [.least, .sum]
  | 3 => [.sum]
  | _ => []
theorem ks_split {f : Nat} {k : Kd} (h : f ≤ k.rk) : ∃ pre, ks f = pre ++ k :: ks (k.rk + 1) ∧ ∀ k' ∈ pre, f ≤ k'.rk := by
  match f, k, h with
  | 0, .most, _ => exact ⟨[], rfl, fun _ h => by cases h⟩
  | 0, .least, _ => exact ⟨[.most], rfl, fun _ h => Nat.zero_le _⟩
  | 0, .sum, _ => exact ⟨[.most, .least], rfl, fun _ h => Nat.zero_le _⟩
  | 1, .most, _ => exact ⟨[], rfl, fun _ h => by cases h⟩
  | 1, .least, _ => exact ⟨[.most], rfl, fun k _ => by cases k <;> decide⟩
  | 1, .sum, _ => exact ⟨[.most, .least], rfl, fun k _ => by cases k <;> decide⟩
  | 2, .most, h => exact absurd h (by decide)
  | 2, .least, _ => exact ⟨[], rfl, fun _ h => by cases h⟩
  | 2, .sum, _ => exact ⟨[.least], rfl, fun k h => by rw [List.mem_singleton.mp h]; decide⟩
  | 3, .most, h => exact absurd h (by decide)
  | 3, .least, h => exact absurd h (by decide)
  | 3, .sum, _ => exact ⟨[], rfl, fun _ h => by cases h⟩
  | n + 4, k, h => cases k <;> exact absurd h (by simp [Kd.rk])
theorem ks_ge {f : Nat} : ∀ {k : Kd}, k ∈ ks f → f ≤ k.rk := by
  intro k h
  match f, h with
  | 0, _ => exact Nat.zero_le _
  | 1, _ => cases k <;> decide
  | 2, h => revert h; cases k <;> decide
  | 3, h => revert h; cases k <;> decide
  | n + 4, h => exact absurd h (by simp [ks])
theorem sg_inj {a b : Kd} (h : a.sg = b.sg) : a = b := by
  revert h
  cases a <;> cases b <;> decide +kernel
theorem chain_stop {ws : List Str} {F : Nat → Option (T × Nat)} {sg : Str} {n : Nat} {ts : List T} {j : Nat} (h : ¬ wd ws j = sg) : chainM ws F sg (n + 1) ts j = some (ts, j) := by
  unfold chainM
  rw [if_neg h]
theorem lift_pre {ws : List Str} {P : Nat → Option (T × Nat)} {ks' : List Kd} {i j : Nat} {t : T} (h : levelM ws P ks' i = some (t, j)) : ∀ {pre : List Kd}, (∀ k ∈ pre, ¬ wd ws j = k.sg) → levelM ws P (pre ++ ks') i = some (t, j)
  | [], _ => h
  | k :: r, hp => by
    have ih := lift_pre h (pre := r) fun k hk => hp k (List.mem_cons_of_mem _ hk)
    rw [List.cons_append]
    unfold levelM
    rw [ih]
    dsimp only
    rw [chain_stop (hp k List.mem_cons_self)]
    rfl
/-- a piece that is no sum, least or most, or stands in brackets -/
theorem lift_piece {ws : List Str} {P : Nat → Option (T × Nat)} {f i j : Nat} {t : T} (h : P i = some (t, j)) (hn : ∀ k : Kd, f ≤ k.rk → ¬ wd ws j = k.sg) : levelM ws P (ks f) i = some (t, j) := by
  have q : levelM ws P [] i = some (t, j) := by unfold levelM; exact h
  have r := lift_pre q (pre := ks f) fun k hk => hn k (ks_ge hk)
  rwa [List.append_nil] at r
/-- the rest of a chain -/
theorem chain_all {ws : List Str} {F : Nat → Option (T × Nat)} {k : Kd} {f : Nat} : ∀ (r : List T) (acc : List T) (j n : Nat), r.length < n → At ws j (wwr f k.sg r) → ¬ wd ws (j + (wwr f k.sg r).length) = k.sg →
    (∀ t ∈ r, ∀ i, At ws i (ww f t) → (wd ws (i + (ww f t).length) = k.sg ∨ i + (ww f t).length = j + (wwr f k.sg r).length) → F i = some (t, i + (ww f t).length)) →
    chainM ws F k.sg n acc j = some (acc ++ r, j + (wwr f k.sg r).length)
  | [], acc, j, n, hn, _, he, _ => by
    cases n with
    | zero => exact absurd hn (Nat.lt_irrefl 0)
    | succ n =>
      rw [List.append_nil]
      exact chain_stop he
  | t :: r, acc, j, n, hn, ha, he, hF => by
    cases n with
    | zero => exact absurd hn (Nat.not_lt_zero _)
    | succ n =>
      have ha' : wd ws j = k.sg ∧ At ws (j + 1) (ww f t ++ wwr f k.sg r) := by unfold wwr at ha; exact ha
      have el : (wwr f k.sg (t :: r)).length = 1 + (ww f t).length + (wwr f k.sg r).length := by
        conv => lhs; unfold wwr
        rw [List.length_cons, List.length_append]; omega
      rw [el] at he hF ⊢
      have e1 : F (j + 1) = some (t, j + 1 + (ww f t).length) := by
        refine hF t List.mem_cons_self (j + 1) ha'.2.left ?_
        cases r with
        | nil => right; show _ = j + (1 + (ww f t).length + 0); omega
        | cons u r =>
          left
          have q := ha'.2.right
          unfold wwr at q
          exact q.1
      unfold chainM
      rw [if_pos ha'.1, e1]
      dsimp only
      have ih := chain_all r (acc ++ [t]) (j + 1 + (ww f t).length) n (by rw [List.length_cons] at hn; omega) ha'.2.right (by
        rwa [show j + 1 + (ww f t).length + (wwr f k.sg r).length = j + (1 + (ww f t).length + (wwr f k.sg r).length) by omega]) (fun u hu i h1 h2 => hF u (List.mem_cons_of_mem _ hu) i h1 (by
        rwa [show j + 1 + (ww f t).length + (wwr f k.sg r).length = j + (1 + (ww f t).length + (wwr f k.sg r).length) by omega] at h2))
      rw [ih, List.append_assoc]
      congr 2
      omega
theorem name_not {s : Str} (h : NameOk s) : ¬ s = "(" ∧ ¬ s = "[" := by
  constructor
  · intro e
    subst e
    exact absurd h (by unfold NameOk; decide +kernel)
  · intro e
    subst e
    exact absurd h (by unfold NameOk; decide +kernel)
/-- a join whose pieces are read, read at its own level -/
theorem join_level {ws : List Str} {P : Nat → Option (T × Nat)} {k : Kd} {ts : List T} {i : Nat} (h2 : 2 ≤ ts.length) (h8 : ts.length ≤ 8) (hl : ts.length ≤ ws.length) (ha : At ws i (wws (k.rk + 1) k.sg ts))
    (hn : ∀ k' : Kd, k.rk ≤ k'.rk → ¬ wd ws (i + (wws (k.rk + 1) k.sg ts).length) = k'.sg)
    (hF : ∀ t ∈ ts, ∀ i, At ws i (ww (k.rk + 1) t) → (∀ k' : Kd, k.rk + 1 ≤ k'.rk → ¬ wd ws (i + (ww (k.rk + 1) t).length) = k'.sg) → levelM ws P (ks (k.rk + 1)) i = some (t, i + (ww (k.rk + 1) t).length)) :
    levelM ws P (k :: ks (k.rk + 1)) i = some (.join k ts, i + (wws (k.rk + 1) k.sg ts).length) := by
  cases ts with
  | nil => exact absurd h2 (by simp)
  | cons t r =>
    have el : (wws (k.rk + 1) k.sg (t :: r)).length = (ww (k.rk + 1) t).length + (wwr (k.rk + 1) k.sg r).length := by
      conv => lhs; unfold wws
      rw [List.length_append]
    have ha' : At ws i (ww (k.rk + 1) t ++ wwr (k.rk + 1) k.sg r) := by unfold wws at ha; exact ha
    rw [el] at hn ⊢
    have other : ∀ {j : Nat}, wd ws j = k.sg → ∀ k' : Kd, k.rk + 1 ≤ k'.rk → ¬ wd ws j = k'.sg := fun e k' hk q => by
      have z := sg_inj (e.symm.trans q)
      subst z
      omega
    have e1 : levelM ws P (ks (k.rk + 1)) i = some (t, i + (ww (k.rk + 1) t).length) := by
      refine hF t List.mem_cons_self i ha'.left ?_
      cases r with
      | nil => exact absurd h2 (by simp)
      | cons u r =>
        have q := ha'.right
        unfold wwr at q
        exact other q.1
    unfold levelM
    rw [e1]
    dsimp only
    have c := chain_all (F := levelM ws P (ks (k.rk + 1))) (k := k) (f := k.rk + 1) r [t] (i + (ww (k.rk + 1) t).length) (ws.length + 1) (by rw [List.length_cons] at hl; omega) ha'.right (by
      rw [Nat.add_assoc]; exact hn k (Nat.le_refl _)) (fun u hu i' h1 h2' => hF u (List.mem_cons_of_mem _ hu) i' h1 (by
        rcases h2' with e | e
        · exact other e
        · rw [e, Nat.add_assoc]
          exact fun k' hk => hn k' (by omega)))
    rw [c]
    dsimp only
    have ej : joinM k ([t] ++ r) = some (.join k (t :: r)) := by
      unfold joinM
      rw [if_neg (by show ¬ 8 < (t :: r).length; omega)]
      cases r with
      | nil => exact absurd h2 (by simp)
      | cons u r => rfl
    rw [ej, Nat.add_assoc]
    rfl
theorem parse_wr {ws : List Str} : ∀ (d D : Nat) {t : T} (f i : Nat), d < D → TOk NameOk d t → ws.length ≥ 3 ∨ d = 0 → At ws i (ww f t) → (∀ k : Kd, f ≤ k.rk → ¬ wd ws (i + (ww f t).length) = k.sg) → levelM ws (pieceM ws D) (ks f) i = some (t, i + (ww f t).length)
  | d, 0, _, _, _, h, _, _, _, _ => absurd h (Nat.not_lt_zero _)
  | d, D + 1, .num n, f, i, hd, h, hw, ha, hn => by
    obtain ⟨h1, h2, h3, h4, h5, h6⟩ := num_facts h.num
    unfold ww at ha hn ⊢
    refine lift_piece ?_ hn
    unfold pieceM
    rw [ha.1, if_neg h5, if_neg h6, h4, if_neg Bool.false_ne_true, h3]
    rfl
  | d, D + 1, .name s, f, i, hd, h, hw, ha, hn => by
    have h1 := h.name
    obtain ⟨h5, h6⟩ := name_not h1
    unfold ww at ha hn ⊢
    refine lift_piece ?_ hn
    unfold pieceM
    rw [ha.1, if_neg h5, if_neg h6, if_pos (show nameM s = true from h1)]
    rfl
  | 0, D + 1, .gate _ _ _, _, _, _, h, _, _, _ => h.elim
  | 0, D + 1, .join _ _, _, _, _, h, _, _, _ => h.elim
  | d + 1, D + 1, .gate s n t, f, i, hd, h, hw, ha, hn => by
    obtain ⟨h1, h2, h3, h4⟩ := h
    unfold ww at ha hn ⊢
    obtain ⟨a1, a2, a3, a4, a5⟩ := ha
    have ih := parse_wr d D (t := t) 4 (i + 1 + 1 + 1 + 1) (by omega) h4 (hw.elim .inl fun z => absurd z (Nat.succ_ne_zero d)) a5 (fun k hk => by cases k <;> exact absurd hk (by decide))
    refine lift_piece ?_ hn
    unfold pieceM
    rw [a1, if_neg (by decide +kernel), if_pos rfl]
    unfold gateM
    rw [a2, if_pos (show nameM s = true from h1), show wd ws (i + 1 + 1) = tx n from a3, bound_facts ⟨h2, h3⟩]
    dsimp only
    rw [if_pos (show wd ws (i + 1 + 2) = "]" from a4)]
    have e : pieceM ws D (i + 1 + 3) = some (t, i + 1 + 1 + 1 + 1 + (ww 4 t).length) := by
      unfold levelM ks at ih
      exact ih
    rw [e]
    refine congrArg (fun j => some (T.gate s n t, j)) ?_
    simp only [List.length_cons]
    omega
  | d + 1, D + 1, .join k ts, f, i, hd, h, hw, ha, hn => by
    obtain ⟨h2, h3, h4⟩ := h
    have hl : ts.length ≤ ws.length := by
      rcases hw with z | z
      · omega
      · cases z
    unfold ww at ha hn ⊢
    by_cases c : k.rk < f
    · rw [if_pos c] at ha hn ⊢
      obtain ⟨a1, a2⟩ := ha
      have aB := a2.left
      have aC := a2.right.1
      refine lift_piece ?_ hn
      unfold pieceM
      rw [a1, if_pos rfl]
      have J := join_level (P := pieceM ws D) (k := k) h2 (by omega) hl aB (fun k' _ e => by
        rw [aC] at e
        cases k' <;> exact absurd e (by decide +kernel)) (fun t ht i' h1 h2' => parse_wr d D (k.rk + 1) i' (by omega) (h4 t ht) (hw.elim .inl fun z => absurd z (Nat.succ_ne_zero d)) h1 h2')
      obtain ⟨pre, ep, hp⟩ := ks_split (f := 0) (k := k) (Nat.zero_le _)
      have Lv := lift_pre J (pre := pre) (fun k' _ e => by
        rw [aC] at e
        cases k' <;> exact absurd e (by decide +kernel))
      rw [← ep] at Lv
      rw [show levelM ws (pieceM ws D) kinds (i + 1) = some (.join k ts, i + 1 + (wws (k.rk + 1) k.sg ts).length) from Lv]
      dsimp only
      rw [if_pos aC]
      congr 2
      rw [List.length_cons, List.length_append, List.length_singleton]
      omega
    · rw [if_neg c] at ha hn ⊢
      have J := join_level (P := pieceM ws (D + 1)) (k := k) h2 (by omega) hl ha (fun k' hk => hn k' (by omega)) (fun t ht i' h1 h2' => parse_wr d (D + 1) (k.rk + 1) i' (by omega) (h4 t ht) (hw.elim .inl fun z => absurd z (Nat.succ_ne_zero d)) h1 h2')
      obtain ⟨pre, ep, hp⟩ := ks_split (f := f) (k := k) (by omega)
      rw [ep]
      exact lift_pre J fun k' hk => hn k' (hp k' hk)
def WB : Nat → Nat
  | 0 => 1
  | d + 1 => 3 * WB d + 4
theorem WB_one : ∀ d, 1 ≤ WB d
  | 0 => Nat.le_refl 1
  | d + 1 => by show 1 ≤ 3 * WB d + 4; omega
theorem wwr_len {f B : Nat} {sg : Str} : ∀ {r : List T}, (∀ t ∈ r, (ww f t).length ≤ B) → (wwr f sg r).length ≤ r.length * (B + 1)
  | [], _ => Nat.zero_le _
  | t :: r, h => by
    unfold wwr
    have ih := wwr_len (sg := sg) (r := r) fun u hu => h u (List.mem_cons_of_mem _ hu)
    have h1 := h t List.mem_cons_self
    rw [List.length_cons, List.length_append, List.length_cons, Nat.add_mul]
    omega
theorem wws_len {f B : Nat} {sg : Str} {t : T} {r : List T} (h : ∀ u ∈ t :: r, (ww f u).length ≤ B) : (wws f sg (t :: r)).length ≤ B + r.length * (B + 1) := by
  unfold wws
  have h1 := h t List.mem_cons_self
  have h2 := wwr_len (sg := sg) (r := r) fun u hu => h u (List.mem_cons_of_mem _ hu)
  rw [List.length_append]
  omega
theorem ww_len : ∀ (d : Nat) {t : T} (f : Nat), TOk NameOk d t → (ww f t).length ≤ WB d
  | d, .num n, f, h => by unfold ww; exact WB_one d
  | d, .name n, f, h => by unfold ww; exact WB_one d
  | 0, .gate _ _ _, _, h => h.elim
  | 0, .join _ _, _, h => h.elim
  | d + 1, .gate s n t, f, h => by
    have e := ww_len d 4 h.2.2.2
    unfold ww
    show _ ≤ 3 * WB d + 4
    simp only [List.length_cons]
    omega
  | d + 1, .join k ts, f, h => by
    obtain ⟨h1, h2, h3⟩ := h
    have e : (wws (k.rk + 1) k.sg ts).length ≤ 3 * WB d + 2 := by
      cases ts with
      | nil => simp at h1
      | cons t r =>
        have q := wws_len (sg := k.sg) (t := t) (r := r) fun u hu => ww_len d (k.rk + 1) (h3 u hu)
        have q2 : r.length * (WB d + 1) ≤ 2 * (WB d + 1) := Nat.mul_le_mul_right _ (by rw [List.length_cons] at h2; omega)
        omega
    unfold ww
    show _ ≤ 3 * WB d + 4
    split
    · rw [List.length_cons, List.length_append, List.length_singleton]; omega
    · omega
theorem ww_pos : ∀ {t : T} (d f : Nat), TOk NameOk d t → 1 ≤ (ww f t).length
  | .num _, d, f, _ => by unfold ww; exact Nat.le_refl 1
  | .name _, d, f, _ => by unfold ww; exact Nat.le_refl 1
  | .gate _ _ _, d, f, _ => by unfold ww; rw [List.length_cons]; omega
  | .join k ts, 0, f, h => h.elim
  | .join k ts, d + 1, f, h => by
    have e : 1 ≤ (wws (k.rk + 1) k.sg ts).length := by
      obtain ⟨h1, h2, h3⟩ := h
      match ts, h1 with
      | t :: u :: r, _ =>
        unfold wws wwr
        rw [List.length_append, List.length_cons]
        omega
    unfold ww
    split
    · rw [List.length_cons]; omega
    · exact e
theorem ww_three {t : T} (d f : Nat) (h : TOk NameOk (d + 1) t) : TOk NameOk 0 t ∨ 3 ≤ (ww f t).length := by
  cases t with
  | num n => exact .inl h
  | name n => exact .inl h
  | gate s n t =>
    right
    unfold ww
    simp only [List.length_cons]
    omega
  | join k ts =>
    right
    obtain ⟨h1, h2, h3⟩ := h
    have e : 3 ≤ (wws (k.rk + 1) k.sg ts).length := by
      match ts, h1, h3 with
      | t :: u :: r, _, h3 =>
        have q1 := ww_pos d (k.rk + 1) (h3 t List.mem_cons_self)
        have q2 := ww_pos d (k.rk + 1) (h3 u (List.mem_cons_of_mem _ List.mem_cons_self))
        unfold wws wwr
        rw [List.length_append, List.length_cons, List.length_append]
        omega
    unfold ww
    split
    · rw [List.length_cons, List.length_append]; omega
    · exact e
theorem sg_ne (k : Kd) : ¬ Str.empty = k.sg := by cases k <;> decide +kernel
theorem read_wr {t : T} (h : TOk NameOk 2 t) : readM (wr 0 t) = some t := by
  have l1 := wr_len (fun s h => (name_facts h).2.1) 2 0 h
  have l2 : (ww 0 t).length ≤ 25 := ww_len 2 0 h
  unfold readM
  rw [if_neg (by have : LB 2 = 134 := rfl; omega), lexM_wr h]
  dsimp only
  rw [if_neg (by omega)]
  have ha : At (ww 0 t) 0 (ww 0 t) := At.self [] (ww 0 t)
  have he : wd (ww 0 t) (0 + (ww 0 t).length) = Str.empty := wd_end (by omega)
  have P : levelM (ww 0 t) (pieceM (ww 0 t) 3) (ks 0) 0 = some (t, 0 + (ww 0 t).length) := by
    rcases ww_three 1 0 h with q | q
    · exact parse_wr 0 3 0 0 (by decide) q (.inr rfl) ha fun k _ e => sg_ne k (he.symm.trans e)
    · exact parse_wr 2 3 0 0 (by decide) h (.inl q) ha fun k _ e => sg_ne k (he.symm.trans e)
  rw [show levelM (ww 0 t) (pieceM (ww 0 t) 3) kinds 0 = _ from P]
  dsimp only
  rw [if_pos he]
end Aw

namespace Aw
open PySem L2
/-! ### any tree that a text is read to: its depth, a bound for its text -/
mutual
def WF : T → Prop
  | .num n => 0 ≤ n ∧ n ≤ 30
  | .name _ => True
  | .gate _ b t => (0 ≤ b ∧ b ≤ 30) ∧ WF t
  | .join _ ts => 0 < ts.length ∧ WFs ts
def WFs : List T → Prop
  | [] => True
  | t :: r => WF t ∧ WFs r
end
mutual
def dep : T → Nat
  | .num _ => 0
  | .name _ => 0
  | .gate _ _ t => dep t + 1
  | .join _ ts => deps ts + 1
def deps : List T → Nat
  | [] => 0
  | t :: r => max (dep t) (deps r)
end
mutual
def Sz : T → Nat
  | .num _ => 2
  | .name s => s.length
  | .gate s _ t => s.length + 8 + Sz t
  | .join _ ts => 2 + Szs ts
def Szs : List T → Nat
  | [] => 0
  | t :: r => Sz t + 3 + Szs r
end
theorem WFs.mem : ∀ {ts : List T} {t : T}, WFs ts → t ∈ ts → WF t
  | _ :: _, _, h, .head _ => h.1
  | _ :: _, _, h, .tail _ m => WFs.mem h.2 m
theorem WFs.of : ∀ {ts : List T}, (∀ t ∈ ts, WF t) → WFs ts
  | [], _ => True.intro
  | t :: r, h => ⟨h t List.mem_cons_self, WFs.of fun u hu => h u (List.mem_cons_of_mem _ hu)⟩
theorem dep_mem : ∀ {ts : List T} {t : T}, t ∈ ts → dep t ≤ deps ts
  | _ :: _, _, .head _ => Nat.le_max_left _ _
  | _ :: _, _, .tail _ m => Nat.le_trans (dep_mem m) (Nat.le_max_right _ _)
theorem deps_le {n : Nat} : ∀ {ts : List T}, (∀ t ∈ ts, dep t ≤ n) → deps ts ≤ n
  | [], _ => Nat.zero_le _
  | t :: r, h => Nat.max_le.mpr ⟨h t List.mem_cons_self, deps_le fun u hu => h u (List.mem_cons_of_mem _ hu)⟩
theorem Sz_mem : ∀ {ts : List T} {t : T}, t ∈ ts → Sz t ≤ Szs ts
  | t :: r, _, .head _ => by show Sz t ≤ Sz t + 3 + Szs r; omega
  | t :: r, u, .tail _ m => by have := Sz_mem m; show Sz u ≤ Sz t + 3 + Szs r; omega
theorem Szs_take : ∀ (ts : List T) (i : Nat), Szs (ts.take i) ≤ Szs ts
  | [], i => by simp
  | t :: r, 0 => Nat.zero_le _
  | t :: r, i + 1 => by have := Szs_take r i; show Sz t + 3 + Szs (r.take i) ≤ Sz t + 3 + Szs r; omega
mutual
theorem wr_Sz : ∀ (t : T) (f : Int), WF t → (wr f t).length ≤ Sz t
  | .num n, f, h => tx_len h
  | .name s, f, h => Nat.le_refl _
  | .gate s b t, f, h => by
    have e := wr_Sz t 4 h.2
    have e2 := tx_len h.1
    unfold wr Sz
    rw [len_app', len_app', len_app', len_app', len_app']
    have c1 : ("[" : Str).length = 1 := by decide +kernel
    have c2 : (" " : Str).length = 1 := by decide +kernel
    have c3 : ("] " : Str).length = 2 := by decide +kernel
    omega
  | .join k ts, f, h => by
    have e := wrs_Sz ts k.sep (k.rank + 1) (sep_len k) h.2
    have c1 : ("(" : Str).length = 1 := by decide +kernel
    have c2 : (")" : Str).length = 1 := by decide +kernel
    unfold wr Sz
    split
    · rw [len_app', len_app']; omega
    · omega
theorem wrs_Sz : ∀ (ts : List T) (sep : Str) (f : Int), sep.length = 3 → WFs ts → (wrs sep f ts).length ≤ Szs ts
  | [], _, _, _, _ => Nat.le_refl _
  | [t], sep, f, _, h => by
    have e := wr_Sz t f h.1
    rw [wrs_one]
    show _ ≤ Sz t + 3 + 0
    omega
  | t :: u :: r, sep, f, hs, h => by
    have e := wr_Sz t f h.1
    have e2 := wrs_Sz (u :: r) sep f hs h.2
    rw [wrs_two, len_app', len_app', hs]
    show _ ≤ Sz t + 3 + Szs (u :: r)
    omega
end
theorem wrs_join (sep : Str) (f : Int) : ∀ ts : List T, wrs sep f ts = Str.join sep (ts.map (wr f))
  | [] => rfl
  | [t] => by rw [wrs_one]; rfl
  | t :: u :: r => by
    rw [wrs_two, wrs_join sep f (u :: r)]
    rfl
theorem sum_Sz (f : Int) : ∀ (ts : List T), WFs ts → ((ts.map (wr f)).map (·.length)).sum + ts.length * 3 ≤ Szs ts
  | [], _ => Nat.le_refl _
  | t :: r, h => by
    have e := sum_Sz f r h.2
    have e1 := wr_Sz t f h.1
    simp only [List.map_cons, List.sum_cons, List.length_cons]
    show _ ≤ Sz t + 3 + Szs r
    omega
/-- the kind in which a piece stands: a gate, or a sum, a least, a most -/
def kfs : Option Kd → Str
  | none => "gate"
  | some k => k.nm
def kff : Option Kd → Int
  | none => 4
  | some k => k.rank + 1
def kinds_of : T → Str
  | .num _ => "number"
  | .name _ => "name"
  | .gate _ _ _ => "gate"
  | .join k _ => k.nm
def bare : Option Kd → List Str
  | none => ["number", "name", "gate"]
  | some .sum => ["number", "name", "gate"]
  | some .least => ["number", "name", "gate", "sum"]
  | some .most => ["number", "name", "gate", "sum", "least"]
/-- what needs no brackets there -/
theorem bare_iff (o : Option Kd) (t : T) : wr (kff o) t = if kinds_of t ∈ bare o then wr 0 t else "(" ++ wr 0 t ++ ")" := by
  have lit : ∀ s ∈ ([("number" : Str), "name", "gate"] : List Str), s ∈ bare o := by
    intro s hs
    cases o with
    | none => exact hs
    | some k => cases k <;> (simp only [bare, List.mem_cons] at hs ⊢; rcases hs with h | h | h | h <;> simp [h] at *)
  cases t with
  | num n => rw [if_pos (lit _ (by simp [kinds_of]))]; unfold wr; rfl
  | name n => rw [if_pos (lit _ (by simp [kinds_of]))]; unfold wr; rfl
  | gate s b t => rw [if_pos (lit _ (by simp [kinds_of]))]; conv => lhs; unfold wr
                  conv => rhs; unfold wr
  | join k ts =>
    have e : (k.nm ∈ bare o) ↔ ¬ k.rank < kff o := by
      revert k
      cases o with
      | none => intro k; cases k <;> decide +kernel
      | some k' => intro k; cases k <;> cases k' <;> decide +kernel
    have ek : kinds_of (.join k ts) = k.nm := rfl
    rw [ek]
    have e0 : wr 0 (.join k ts) = wrs k.sep (k.rank + 1) ts := by
      unfold wr
      rw [if_neg (by cases k <;> decide)]
    rw [e0]
    conv => lhs; unfold wr
    by_cases c : k.rank < kff o
    · rw [if_pos c, if_neg (fun z => e.mp z c)]
    · rw [if_neg c, if_pos (e.mpr c)]
theorem ok_WF : ∀ (d : Nat) {t : T}, TOk NameOk d t → WF t ∧ dep t ≤ d ∧ Sz t ≤ 30 * 4 ^ d
  | d, .num n, h => ⟨h.num, Nat.zero_le _, by
      have := Nat.pow_le_pow_right (n := 4) (by decide) (Nat.zero_le d)
      show 2 ≤ 30 * 4 ^ d
      omega⟩
  | d, .name s, h => ⟨True.intro, Nat.zero_le _, by
      have := Nat.pow_le_pow_right (n := 4) (by decide) (Nat.zero_le d)
      have := (name_facts h.name).2.1
      show s.length ≤ 30 * 4 ^ d
      omega⟩
  | 0, .gate _ _ _, h => h.elim
  | 0, .join _ _, h => h.elim
  | d + 1, .gate s b t, h => by
    obtain ⟨h1, h2, h3, h4⟩ := h
    obtain ⟨a, b', c⟩ := ok_WF d h4
    have l := (name_facts h1).2.1
    have p := Nat.pow_le_pow_right (n := 4) (by decide) (Nat.zero_le d)
    refine ⟨⟨⟨by omega, h3⟩, a⟩, Nat.succ_le_succ b', ?_⟩
    show s.length + 8 + Sz t ≤ 30 * 4 ^ (d + 1)
    rw [Nat.pow_succ]
    omega
  | d + 1, .join k ts, h => by
    obtain ⟨h1, h2, h3⟩ := h
    have p := Nat.pow_le_pow_right (n := 4) (by decide) (Nat.zero_le d)
    refine ⟨⟨by omega, WFs.of fun t ht => (ok_WF d (h3 t ht)).1⟩, Nat.succ_le_succ (deps_le fun t ht => (ok_WF d (h3 t ht)).2.1), ?_⟩
    have g : ∀ (l : List T), (∀ t ∈ l, TOk NameOk d t) → Szs l ≤ l.length * (30 * 4 ^ d + 3) := by
      intro l
      induction l with
      | nil => intro _; exact Nat.zero_le _
      | cons t r ih =>
        intro hl
        have e1 := (ok_WF d (hl t List.mem_cons_self)).2.2
        have e2 := ih fun u hu => hl u (List.mem_cons_of_mem _ hu)
        show Sz t + 3 + Szs r ≤ _
        rw [List.length_cons, Nat.add_mul, Nat.one_mul]
        omega
    have e := g ts h3
    have e2 : ts.length * (30 * 4 ^ d + 3) ≤ 3 * (30 * 4 ^ d + 3) := Nat.mul_le_mul_right _ h2
    show 2 + Szs ts ≤ 30 * 4 ^ (d + 1)
    rw [Nat.pow_succ]
    omega
end Aw

namespace Aw
open PySem L2 NdefX LamX
/-! ### what is made while the program runs, and called elsewhere: a thing that may be called, told by what the base holds -/
/-- a thing that may be called: Pre is what must be tracked at a call -/
structure Clo (P : Program) (w : World) (K : PySem.W.Frag) (mg : Str → Option Value) (base : Heap) (CX : CXT) (k : Nat) (f : Addr) (Pre : Hp → Prop) (sp : Sp) : Prop where
  fn : ∀ (h : Heap) (H : Hp), (∀ b o, base.get? b = some o → h.get? b = some o) → HOk P w H h → Pre H → PySem.W.FnAt f h
  run : ∀ (A : Around) (outer : List Env) (s : Shared) (H : Hp) (us : List Value) (vs : List V) (Q : VK) (E : XK), Room k A → Env0 P w K mg base A outer s H → Pre H → Vals vs us → sp vs H Q E →
    codeAny (model P w) A (.call (.ref f) ⟨us, []⟩) (CR CX outer P w H s Q E) s
theorem Clo.imp {P : Program} {w : World} {K : PySem.W.Frag} {mg : Str → Option Value} {base : Heap} {CX : CXT} {k : Nat} {f : Addr} {Pre : Hp → Prop} {sp sp' : Sp} (c : Clo P w K mg base CX k f Pre sp) (h : ∀ vs H Q E, sp' vs H Q E → sp vs H Q E) : Clo P w K mg base CX k f Pre sp' :=
  ⟨c.fn, fun A outer s H us vs Q E hr e0 hp r q => c.run A outer s H us vs Q E hr e0 hp r (h _ _ _ _ q)⟩
theorem Clo.mono {P : Program} {w : World} {K : PySem.W.Frag} {mg : Str → Option Value} {base : Heap} {CX : CXT} {k j : Nat} {f : Addr} {Pre : Hp → Prop} {sp : Sp} (c : Clo P w K mg base CX k f Pre sp) (h : k ≤ j) : Clo P w K mg base CX j f Pre sp :=
  ⟨c.fn, fun A outer s H us vs Q E hr => c.run A outer s H us vs Q E (hr.mono h)⟩
section
variable {X : Cx} {CX : CXT} {k i : Nat} {f : Addr} {Pre : Hp → Prop} {sp : Sp} {E : XK} {x : Str} {p pos : Pos} {e : Expr} {es : List Expr} {t : L2.TA}
/-- a call's end, whatever base it was proved over -/
theorem ep_of {pins : List (Addr × Obj)} {σ : L2.St} {H : Hp} {s : Shared} {Q : VK} {us : List Value} {g : Addr} (hx : Passes CX X E) (I : Inv X pins σ H s) (h : codeAny (model X.prog X.w) X.A (.call (.ref g) ⟨us, []⟩) (CR CX X.stack X.prog X.w H s Q E) s) :
    wpAny (model X.prog X.w) X.A (call (.ref g) us) (EP X pins σ Q) X.xe s := by
  refine wpAny_call (codeAny_mono h fun r s2 hq => ?_)
  match r, hq with
  | .error er, hq => exact hx pins σ H s er s2 I hq
  | .ok (.ret u), hq => exact I.after hq
  | .ok .next, hq => exact False.elim hq
  | .ok .brk, hq => exact False.elim hq
  | .ok .cont, hq => exact False.elim hq
/-- g(e, ..), g a local name that holds such a thing -/
def tClo (i : Nat) (f : Addr) (Pre : Hp → Prop) (sp : Sp) (E : XK) (t : L2.TA) : TE := fun σ H Q => σ[i]? = some (some (.ref f)) ∧ Pre H ∧ t σ H fun vs H1 => Pre H1 ∧ sp vs H1 Q E
theorem pe_clo (F : Clo X.prog X.w X.K X.mg X.base CX k f Pre sp) (hr : Room k X.A) (hx : Passes CX X E) (hN : X.N[i]? = some x) (hv : Vis X.env.scope x) (ha : PA X (e :: es) t)
    (hd : (x == ("__debug__" : Str)) = false := by decide) (hcd : (x == ("__classdict__" : Str)) = false := by decide)
    (he : starEach (e :: es) X.env = (false, eval e X.env) :: starEach es X.env := by rfl) (hpl : (backTo pos (starEach es X.env)).any (·.1) = false := by rfl) :
    PE X (.Call (.Name x p) (e :: es) [] pos) (tClo i f Pre sp E t) := by
  constructor
  intro pins s σ H Q I h
  obtain ⟨hs, hp, ht⟩ := h
  refine wpAny_Call_Name_kw (thn ((pe_var (pos := p) hN hv hd hcd).run pins s σ H (fun v H1 => v = .ref f ∧ H1 = H) I ⟨_, hs, rfl, rfl⟩) fun u sA ⟨v, HA, IA, rA, qA⟩ => ?_)
  obtain ⟨rfl, rfl⟩ := qA
  cases rA
  refine PySem.W.callWith_F (first := []) (F.fn _ _ IA.bk IA.hok hp) (thn (ha.run pos pins sA σ _ _ IA ht) fun us sB ⟨vs, HB, IB, rB, hpB, qB⟩ => ⟨F.fn _ _ IB.bk IB.hok hpB, ?_⟩) he hpl
  exact ep_of hx IB (F.run X.A X.stack sB HB us vs Q E hr IB.env0 hpB rB qB)
end
/-! ### a wider base: what is there now, untracked, and no frame's -/
section
variable {X : Cx} {pins : List (Addr × Obj)} {σ : L2.St} {H : Hp} {s : Shared}
theorem up_base (I : Inv X pins σ H s) (L : List Addr) (hL : ∀ b ∈ L, H b = none ∧ b ∉ frs X.stack) :
    ∃ B : Heap, (∀ b o, X.base.get? b = some o → B.get? b = some o) ∧ (∀ b ∈ L, B.get? b = s.heap.get? b) ∧ Env0 X.prog X.w X.K X.mg B X.A X.stack s H := by
  have e0 := I.env0
  obtain ⟨hide, hh⟩ : ∃ l : List Addr, l = (List.range s.heap.objs.size).filter fun b => !((X.base.get? b).isSome || decide (b ∈ L)) := ⟨_, rfl⟩
  have no : ∀ b, b ∈ hide → X.base.get? b = none ∧ b ∉ L := fun b hb => by
    rw [hh] at hb
    have z := (List.mem_filter.mp hb).2
    simp only [Bool.not_eq_true', Bool.or_eq_false_iff, decide_eq_false_iff_not] at z
    exact ⟨by simpa using z.1, z.2⟩
  have yes : ∀ b o, s.heap.get? b = some o → X.base.get? b = none → b ∉ L → b ∈ hide := fun b o q h1 h2 => by
    rw [hh]
    exact List.mem_filter.mpr ⟨List.mem_range.mpr (Heap.lt_size q), by simp [h1, h2]⟩
  have sub : ∀ b o, X.base.get? b = some o → (PySem.W.hideAll s.heap hide).get? b = some o := fun b o q => PySem.W.hideAll_get hide (e0.bs b o q).1 fun hm => by rw [(no b hm).1] at q; cases q
  have back : ∀ b o, (PySem.W.hideAll s.heap hide).get? b = some o → s.heap.get? b = some o ∧ ((∃ o', X.base.get? b = some o') ∨ b ∈ L) := fun b o q => by
    have z := PySem.W.of_hideAll hide q
    refine ⟨z, ?_⟩
    cases c : X.base.get? b with
    | some o' => exact .inl ⟨o', rfl⟩
    | none =>
      by_cases cl : b ∈ L
      · exact .inr cl
      · rw [PySem.W.hideAll_none hide (yes b o z c cl)] at q
        cases q
  refine ⟨PySem.W.hideAll s.heap hide, sub, fun b hb => ?_, ⟨e0.frames, ⟨e0.mod.kin.keeps sub, e0.mod.glob.keeps sub, ?_, e0.mod.nolimit.keeps sub⟩, fun b o q => ?_, Nat.le_of_eq (PySem.W.hideAll_size _ _), funFrames_none e0.funs fun b hb => ?_, e0.frf, e0.hok, e0.bare⟩⟩
  · cases c : s.heap.get? b with
    | some o => exact PySem.W.hideAll_get hide c fun hm => (no b hm).2 hb
    | none =>
      cases q : (PySem.W.hideAll s.heap hide).get? b with
      | none => rfl
      | some o =>
        have z := PySem.W.of_hideAll hide q
        rw [c] at z
        cases z
  · obtain ⟨mb, hm, hx⟩ := e0.mod.blt
    exact ⟨mb, hm.keeps sub, hx⟩
  · obtain ⟨z, c⟩ := back b o q
    refine ⟨z, ?_⟩
    rcases c with ⟨o', c⟩ | c
    · exact (e0.bs b o' c).2
    · exact (hL b c).1
  · cases q : (PySem.W.hideAll s.heap hide).get? b with
    | none => rfl
    | some o =>
      obtain ⟨_, c⟩ := back b o q
      rcases c with ⟨o', c⟩ | c
      · rw [(e0.funs.mem hb).1] at c
        cases c
      · exact absurd hb (hL b c).2
/-- a cell of the running def is no frame -/
theorem cell_nofr (I : Inv X pins σ H s) (hfn : ∀ y, X.fn y = true) {y : Str} {c : Addr} (e : X.env.cells.lookup y = some c) : H c = none ∧ c ∉ frs X.stack := by
  refine ⟨I.freeC y c e, fun hb => ?_⟩
  rcases List.mem_cons.mp (I.stkSub c hb) with q | q
  · exact I.cne y c e q
  · obtain ⟨_, o, ho, _⟩ := I.ok.funs.mem q
    exact absurd (Nat.lt_of_lt_of_le (Heap.lt_size ho) (I.ok.cab y c (hfn y) e)) (Nat.lt_irrefl _)
end
/-! ### what the captured cells hold, told of the base -/
structure CellsB (base : Heap) (cl : List (Str × Addr)) (fr : List Str) (ws : List (Option V)) : Prop where
  len : ws.length = fr.length
  all : ∀ y c, cl.lookup y = some c → ∃ v, base.IsCell c v
  inj : ∀ x y c, cl.lookup x = some c → cl.lookup y = some c → x = y
  has : ∀ (i : Nat) (y : Str), fr[i]? = some y → ∃ c, cl.lookup y = some c ∧ ∀ v, ws[i]? = some (some v) → ∃ u, RelV v u ∧ base.IsCell c (some u)
theorem CellsB.at_ {P : Program} {w : World} {K : PySem.W.Frag} {mg : Str → Option Value} {base : Heap} {A : Around} {outer : List Env} {s : Shared} {H : Hp} {cl : List (Str × Addr)} {fr : List Str} {ws : List (Option V)} (c : CellsB base cl fr ws) (e0 : Env0 P w K mg base A outer s H) : CellsAt cl fr ws s.heap H := by
  refine ⟨c.len, fun y a e => ?_, c.inj, fun i y e => ?_⟩
  · obtain ⟨v, o, ho, hd⟩ := c.all y a e
    exact ⟨(e0.bs a o ho).2, v, o, (e0.bs a o ho).1, hd⟩
  · obtain ⟨a, ha, hv⟩ := c.has i y e
    refine ⟨a, ha, fun v ev => ?_⟩
    obtain ⟨u, ru, o, ho, hd⟩ := hv v ev
    exact ⟨u, ru, o, (e0.bs a o ho).1, hd⟩
theorem CellsB.of {B h : Heap} {H : Hp} {cl : List (Str × Addr)} {fr : List Str} {ws : List (Option V)} (c : CellsAt cl fr ws h H) (k : ∀ y a, cl.lookup y = some a → B.get? a = h.get? a) : CellsB B cl fr ws := by
  refine ⟨c.len, fun y a e => ?_, c.inj, fun i y e => ?_⟩
  · obtain ⟨_, v, o, ho, hd⟩ := c.all y a e
    exact ⟨v, o, (k y a e).trans ho, hd⟩
  · obtain ⟨a, ha, hv⟩ := c.has i y e
    refine ⟨a, ha, fun v ev => ?_⟩
    obtain ⟨u, ru, o, ho, hd⟩ := hv v ev
    exact ⟨u, ru, o, (k y a ha).trans ho, hd⟩
/-! ### a lambda with parameters -/
structure LF where
  qual : Str
  params : Arguments
  body : Expr
  scope : Scope
  cl : List (Str × Addr)
  pm : Value
  c : Addr
  ctv : Value
abbrev LF.nf (F : LF) : NF := ⟨"<lambda>", F.qual, F.params, [], F.scope, F.cl, F.c⟩
abbrev LF.obj (F : LF) : Obj := PySem.W.kla_obj "<lambda>" F.qual F.params F.body F.scope F.cl F.pm F.c F.ctv
abbrev LPre (c : Addr) (q : Str) : Hp → Prop := fun H => H c = some (CodeO c q)
theorem clo_lam {P : Program} {w : World} {K : PySem.W.Frag} {mg : Str → Option Value} {base : Heap} {CX : CXT} {N ps fr : List Str} {F : LF} {f : Addr} {k : Nat} {sp : Sp} {ws : List (Option V)} (hf : base.get? f = some F.obj) (C : CellsB base F.cl fr ws) (S : NScope N ps fr F.scope)
    (hb : ∀ us : List Value, us.length = ps.length → bindArgs (PySem.W.kla_fn "<lambda>" F.qual F.params F.body F.scope F.cl F.pm (.ref F.c) F.ctv) ⟨us, []⟩ = pure (ps.zip us)) (len : ∀ vs H Q E, sp vs H Q E → vs.length = ps.length)
    (hbody : ∀ (A : Around) (outer : List Env) (s : Shared) (H : Hp) (vs : List V) (Q : VK) (E : XK), Room k (A.deeper (envF F.nf f s.heap.objs.size)) → LPre F.c F.qual H → sp vs H Q E →
      ∃ t, PE (ncx CX P w K mg base N F.nf f A outer s H E) F.body t ∧ t (startF N vs ws) H Q) : Clo P w K mg base CX (k + 1) f (LPre F.c F.qual) sp := by
  refine ⟨fun h H kb hok _ => ⟨_, none, _, #[], kb _ _ hf⟩, fun A outer s H us vs Q E hr e0 hp r hsp => ?_⟩
  have hl := len _ _ _ _ hsp
  have lim : s.heap.NoLimit := e0.mod.nolimit.keeps fun b o e => (e0.bs b o e).1
  have hfs : s.heap.get? f = some F.obj := (e0.bs _ _ hf).1
  refine PySem.W.kla_callFunE hr.depth hfs rfl S.co S.gen rfl (codeO_at e0.hok hp) ?_
  rw [hb us (by rw [← r.length]; exact hl)]
  refine wpAny_pure (wpAny_newFunctionEnv S.nocell (fun ⟨n, _⟩ hy => S.par n (List.of_mem_zip hy).1) (fun hN hns hsb => ⟨lim.fresh _ hsb, ?_⟩) S.kind)
  show codeAny _ _ (.expr F.body (envF F.nf f s.heap.objs.size)) _ _
  have kp : ∀ b o, s.heap.get? b = some o → hN.get? b = some o := fun b o e => hsb.extBut b o (Nat.ne_of_lt (Heap.lt_size e)) (Heap.get?_push_of_some _ e)
  obtain ⟨t, ht, hq⟩ := hbody A outer s H vs Q E (hr.deeper _) hp hsp
  have I : Inv (ncx CX P w K mg base N F.nf f A outer s H E) [] (startF N vs ws) H { s with heap := hN, toks := s.toks + (ps.zip us).length } := inv_startN S hr.hd e0 hl r (C.at_ e0) hns kp
  refine PySem.W.kla_codeExpr (wpAny_mono (ht.run [] _ _ H Q I hq) (fun v sE hE => ?_) fun _ _ hE => hE)
  obtain ⟨y, HE, J, rv, qE⟩ := hE
  exact ⟨y, HE, J.os, J.bare, J.base, J.hok, rv, qE⟩
section
variable {X : Cx} {CX : CXT} {k : Nat} {g : Addr} {gd : FuncData} {ps fr : List Str} {js : List Nat} {cl : List (Str × Addr)} {E : XK} {x : Str} {p pos : Pos} {e : Expr} {es : List Expr} {t : L2.TA}
theorem cells_up {pins : List (Addr × Obj)} {σ : L2.St} {H : Hp} {s : Shared} (I : Inv X pins σ H s) (hfn : ∀ y, X.fn y = true) (cp : Caps X cl fr js) : ∀ b ∈ cl.map (·.2), (∃ y, cl.lookup y = some b) → H b = none ∧ b ∉ frs X.stack := fun b _ ⟨y, e⟩ => cell_nofr I hfn (cp.sub y b e)
/-- the cells that a function captured, as addresses -/
def celsOf (cl : List (Str × Addr)) : List Addr := (cl.map (·.1)).filterMap fun y => cl.lookup y
theorem celsOf_mem {y : Str} {c : Addr} (e : cl.lookup y = some c) : c ∈ celsOf cl := List.mem_filterMap.mpr ⟨y, List.mem_map_of_mem (PySem.mem_of_lookup e), e⟩
theorem celsOf_back {c : Addr} (h : c ∈ celsOf cl) : ∃ y, cl.lookup y = some c := by
  obtain ⟨y, _, e⟩ := List.mem_filterMap.mp h
  exact ⟨y, e⟩
/-- g(e, ..), g a def of the top that will call what the running def has made: its promise may speak of what the captured names hold -/
theorem pe_up {sp : List (Option V) → Sp} (F : ∀ (B : Heap) (ws : List (Option V)), (∀ b o, X.base.get? b = some o → B.get? b = some o) → CellsB B cl fr ws → FnOk X.prog X.w X.K X.mg B CX k g gd ps (sp ws)) (hfn : ∀ y, X.fn y = true) (cp : X.Ok → Caps X cl fr js)
    (hr : Room k X.A) (hg : Gl X x) (hm : X.mg x = some (.ref g)) (hk : PySem.W.keepIn X.K (.ref g) = true) (hb : Binds X.K gd ps []) (hx : Passes CX X E) (ha : PA X (e :: es) t) (hdb : (x == ("__debug__" : Str)) = false := by decide)
    (he : starEach (e :: es) X.env = (false, eval e X.env) :: starEach es X.env := by rfl) (hpl : (backTo pos (starEach es X.env)).any (·.1) = false := by rfl) :
    PE X (.Call (.Name x p) (e :: es) [] pos) (fun σ H Q => t σ H fun vs H1 => sp (js.map (slotAt σ)) vs H1 Q E) := by
  constructor
  intro pins s σ H Q I h
  refine wpAny_Call_Name_kw (ld_glob I hg hm ?_ hdb)
  refine PySem.W.callWith_K (h₀ := X.base) I.ok.mod.kin hk (thn (ha.run pos pins s σ H _ I h) fun us sB ⟨vs, HB, IB, rB, qB⟩ => ⟨IB.kIn, ?_⟩) he hpl
  obtain ⟨B, sub, hL, e0⟩ := up_base IB (celsOf cl) fun b hb => by
    obtain ⟨y, e⟩ := celsOf_back hb
    exact cell_nofr IB hfn ((cp IB.ok).sub y b e)
  have CB : CellsB B cl fr (js.map (slotAt σ)) := .of (cells_of IB (cp IB.ok)) fun y a e => hL a (celsOf_mem e)
  have G := F B _ sub CB
  have hl : us.length = ps.length := by rw [← rB.length]; exact G.len _ _ _ _ qB
  have bd := hb sB us IB.kIn (by rw [List.append_nil]; exact hl)
  rw [List.append_nil] at bd
  exact ep_of hx IB (G.run X.A X.stack sB HB ⟨us, []⟩ us vs Q E hr e0 bd rB qB)
/-- g(e, lambda ..: body) -/
theorem pe_lam2 {T : List (Addr × Str)} {c P : Addr} {sp : Addr → Addr → List (Option V) → Sp} {e1 body : Expr} {t1 : TE} {params : Arguments} {scope : Scope} {lpos : Pos}
    (F : ∀ (B : Heap) (f : Addr) (M : LF) (ws : List (Option V)), M.qual = X.env.qual ++ "<lambda>" → M.params = params → M.body = body → M.scope = scope → (∀ b o, X.base.get? b = some o → B.get? b = some o) → B.get? f = some M.obj → CellsB B M.cl fr ws → FnOk X.prog X.w X.K X.mg B CX k g gd ps (sp f M.c ws))
    (hfn : ∀ y, X.fn y = true) (hfree : ∀ y ∈ scope.names, y.2 = .free → X.env.scope.names.lookup y.1 = some .cell ∨ X.env.scope.names.lookup y.1 = some .free) (hfr : ∀ y ∈ fr, (y, NameKind.free) ∈ scope.names) (hjs : js.map (fun j => X.N[j]?) = fr.map some)
    (hr : Room k X.A) (hg : Gl X x) (hm : X.mg x = some (.ref g)) (hk : PySem.W.keepIn X.K (.ref g) = true) (hb : Binds X.K gd ps []) (hx : Passes CX X E) (h1 : PE X e1 t1)
    (TB : TabB X.base X.mg c P) (hcode : X.env.code = .ref c) (hmT : (P, X.env.qual ++ "<lambda>") ∈ T) (hu : ∀ q ∈ T, q.1 = P → q.2 = X.env.qual ++ "<lambda>") (hdef : defaultsOf params X.env = ([], [])) (hdb : (x == ("__debug__" : Str)) = false := by decide)
    (he : starEach [e1, .Lambda params body scope lpos] X.env = (false, eval e1 X.env) :: (false, eval (.Lambda params body scope lpos) X.env) :: starEach [] X.env := by rfl) :
    PE X (.Call (.Name x p) [e1, .Lambda params body scope lpos] [] pos) (fun σ H Q => t1 σ H fun v1 H1 => Tabs T H1 ∧ ∀ (f c' : Addr) (H2 : Hp), ExtN H1 H2 → Tabs T H2 → LPre c' (X.env.qual ++ "<lambda>") H2 → sp f c' (js.map (slotAt σ)) [v1, .ref f] H2 Q E) := by
  constructor
  intro pins s σ H Q I h
  have hfre : X.Ok → ∀ y ∈ scope.names, y.2 = .free → ∃ c, X.env.cells.lookup y.1 = some c := fun ok y hy e => (hfree y hy e).elim (fun z => ok.has _ (.inl z)) fun z => ok.has _ (.inr z)
  refine wpAny_Call_Name_kw (ld_glob I hg hm ?_ hdb)
  refine PySem.W.callWith_K (h₀ := X.base) I.ok.mod.kin hk ?_ (by rw [he]; rfl) (by rfl)
  rw [he]
  show wpAny _ _ (spliced ((false, eval e1 X.env) :: (false, eval (.Lambda params body scope lpos) X.env) :: backTo pos (starEach [] X.env))) _ _ s
  refine Calls.spliced_cons (thn (h1.run pins s σ H _ I h) fun u sA ⟨v1, HA, IA, rA, hT, qA⟩ => ?_)
  refine Calls.spliced_cons (lam_make2 IA TB hcode hmT hu hT hdef (hfre IA.ok) fun f c' pm' ctv HB sB IB eN TN hf hfN hfs hco => ?_)
  refine Calls.spliced_nil ⟨IB.kIn, ?_⟩
  have cp : Caps X (cloFrom X.env.cells scope.names []) fr js := Caps.made IB.ok hfree hfr hjs
  obtain ⟨B, sub, hL, e0⟩ := up_base IB (f :: celsOf (cloFrom X.env.cells scope.names [])) fun b hb => by
    rcases List.mem_cons.mp hb with z | z
    · rw [z]; exact ⟨hfN, hfs⟩
    · obtain ⟨y, e⟩ := celsOf_back z
      exact cell_nofr IB hfn (cp.sub y b e)
  have CB : CellsB B (cloFrom X.env.cells scope.names []) fr (js.map (slotAt σ)) := .of (cells_of IB cp) fun y a e => hL a (List.mem_cons_of_mem _ (celsOf_mem e))
  have G := F B f ⟨X.env.qual ++ "<lambda>", params, body, scope, cloFrom X.env.cells scope.names [], pm', c', ctv⟩ _ rfl rfl rfl rfl sub ((hL f List.mem_cons_self).trans hf) CB
  have qB := qA f c' HB eN TN hco
  have rB : Vals [v1, .ref f] [u, .ref f] := .cons rA (.cons rfl .nil)
  have hl : ([u, .ref f] : List Value).length = ps.length := by rw [← rB.length]; exact G.len _ _ _ _ qB
  have bd := hb sB [u, .ref f] IB.kIn (by rw [List.append_nil]; exact hl)
  rw [List.append_nil] at bd
  exact ep_of hx IB (G.run X.A X.stack sB HB ⟨[u, .ref f], []⟩ [u, .ref f] [v1, .ref f] Q E hr e0 bd rB qB)
end
end Aw

namespace Aw
open PySem L2
/-! ### a recipe asked: the askings change a state S -/
section
variable {S : Type} (o : S → Str → Int) (n : S → Str → S)
def maxL : List Int → Int
  | [] => 0
  | [x] => x
  | x :: r => max x (maxL r)
mutual
def ans : T → S → Int × S
  | .num k, st => (k, st)
  | .name s, st => (o st s, n st s)
  | .gate s b t, st => if o st s < b then (0, n st s) else ans t (n st s)
  | .join .sum ts, st => (min 30 (anss ts st).1.sum, (anss ts st).2)
  | .join .most ts, st => (maxL (anss ts st).1, (anss ts st).2)
  | .join .least ts, st => ansl ts 30 st
def anss : List T → S → List Int × S
  | [], st => ([], st)
  | t :: r, st => ((ans t st).1 :: (anss r (ans t st).2).1, (anss r (ans t st).2).2)
def ansl : List T → Int → S → Int × S
  | [], cur, st => (cur, st)
  | t :: r, cur, st => if 0 < cur then ansl r (min cur (ans t st).1) (ans t st).2 else (cur, st)
end
theorem anss_snoc : ∀ (ts : List T) (t : T) (st : S), anss o n (ts ++ [t]) st = ((anss o n ts st).1 ++ [(ans o n t (anss o n ts st).2).1], (ans o n t (anss o n ts st).2).2)
  | [], t, st => by
    show anss o n [t] st = _
    unfold anss
    unfold anss
    rfl
  | u :: r, t, st => by
    have ih := anss_snoc r t (ans o n u st).2
    show anss o n (u :: (r ++ [t])) st = _
    unfold anss
    rw [ih]
    rfl
theorem anss_len : ∀ (ts : List T) (st : S), (anss o n ts st).1.length = ts.length
  | [], st => by unfold anss; rfl
  | t :: r, st => by
    unfold anss
    rw [List.length_cons, anss_len r, List.length_cons]
end
theorem maxL_is : ∀ {l : List Int} {m : Int}, m ∈ l → (∀ x ∈ l, x ≤ m) → m = maxL l
  | [x], m, h, _ => List.mem_singleton.mp h
  | x :: y :: r, m, h, hle => by
    show m = max x (maxL (y :: r))
    have g : ∀ (l : List Int), l ≠ [] → maxL l ∈ l := by
      intro l
      induction l with
      | nil => intro z; exact absurd rfl z
      | cons a r ih =>
        intro _
        cases r with
        | nil => exact List.mem_singleton.mpr rfl
        | cons b r =>
          show max a (maxL (b :: r)) ∈ _
          rcases Int.le_total a (maxL (b :: r)) with q | q
          · rw [Int.max_eq_right q]; exact List.mem_cons_of_mem _ (ih (by intro z; cases z))
          · rw [Int.max_eq_left q]; exact List.mem_cons_self
    have hm := g (y :: r) (by intro z; cases z)
    have h1 := hle x List.mem_cons_self
    have h2 := hle _ (List.mem_cons_of_mem _ hm)
    rcases List.mem_cons.mp h with q | q
    · subst q; omega
    · have ih := maxL_is q fun z hz => hle z (List.mem_cons_of_mem _ hz)
      omega
mutual
/-- the names in a tree keep D -/
def Nm (D : Str → Prop) : T → Prop
  | .num _ => True
  | .name s => D s
  | .gate s _ t => D s ∧ Nm D t
  | .join _ ts => Nms D ts
def Nms (D : Str → Prop) : List T → Prop
  | [] => True
  | t :: r => Nm D t ∧ Nms D r
end
theorem Nms.mem {D : Str → Prop} : ∀ {ts : List T} {t : T}, Nms D ts → t ∈ ts → Nm D t
  | _ :: _, _, h, .head _ => h.1
  | _ :: _, _, h, .tail _ m => Nms.mem h.2 m
theorem Nms.of {D : Str → Prop} : ∀ {ts : List T}, (∀ t ∈ ts, Nm D t) → Nms D ts
  | [], _ => True.intro
  | t :: r, h => ⟨h t List.mem_cons_self, Nms.of fun u hu => h u (List.mem_cons_of_mem _ hu)⟩
theorem nm_of {D : Str → Prop} : ∀ (d : Nat) {t : T}, TOk D d t → Nm D t
  | d, .num _, _ => True.intro
  | d, .name s, h => h.name
  | 0, .gate _ _ _, h => h.elim
  | 0, .join _ _, h => h.elim
  | d + 1, .gate s b t, h => ⟨h.1, nm_of d h.2.2.2⟩
  | d + 1, .join k ts, h => Nms.of fun t ht => nm_of d (h.2.2 t ht)
mutual
/-- how often a tree asks at most -/
def cst : T → Nat
  | .num _ => 0
  | .name _ => 1
  | .gate _ _ t => cst t + 1
  | .join _ ts => csts ts
def csts : List T → Nat
  | [] => 0
  | t :: r => csts r + cst t
end
/-- what the askings promise: J k st, as long as k askings are left -/
structure AskOk {S : Type} (o : S → Str → Int) (n : S → Str → S) (D : Str → Prop) (J : Nat → S → Prop) : Prop where
  lo : ∀ k st s, J (k + 1) st → D s → 0 ≤ o st s
  hi : ∀ k st s, J (k + 1) st → D s → o st s ≤ 30
  st : ∀ k st s, J (k + 1) st → D s → J k (n st s)
  dn : ∀ k st, J (k + 1) st → J k st
theorem AskOk.add {S : Type} {o : S → Str → Int} {n : S → Str → S} {D : Str → Prop} {J : Nat → S → Prop} (K : AskOk o n D J) {k : Nat} {st : S} : ∀ j : Nat, J (k + j) st → J k st
  | 0, h => h
  | j + 1, h => K.add j (K.dn _ _ h)
theorem AskOk.le {S : Type} {o : S → Str → Int} {n : S → Str → S} {D : Str → Prop} {J : Nat → S → Prop} (K : AskOk o n D J) {k m : Nat} {st : S} (h : J m st) (hk : k ≤ m) : J k st := K.add (m - k) (by rw [Nat.add_sub_cancel' hk]; exact h)
section
variable {S : Type} {o : S → Str → Int} {n : S → Str → S} {D : Str → Prop} {J : Nat → S → Prop} (K : AskOk o n D J)
include K
theorem sum_nn : ∀ {l : List Int}, (∀ x ∈ l, 0 ≤ x) → 0 ≤ l.sum
  | [], _ => Int.le_refl 0
  | x :: r, h => by
    rw [List.sum_cons]
    have h1 := h x List.mem_cons_self
    have h2 := sum_nn (l := r) fun y hy => h y (List.mem_cons_of_mem _ hy)
    omega
mutual
theorem ans_ok : ∀ (t : T) (k : Nat) (st : S), WF t → Nm D t → J (k + cst t) st → 0 ≤ (ans o n t st).1 ∧ (ans o n t st).1 ≤ 30 ∧ J k (ans o n t st).2
  | .num v, k, st, w, _, i => by unfold ans; exact ⟨w.1, w.2, i⟩
  | .name s, k, st, _, d, i => by unfold ans; exact ⟨K.lo k st s i d, K.hi k st s i d, K.st k st s i d⟩
  | .gate s b t, k, st, w, d, i => by
    have i' : J (k + cst t + 1) st := i
    unfold ans
    split
    · exact ⟨Int.le_refl 0, by omega, K.add _ (K.st _ st s i' d.1)⟩
    · exact ans_ok t k _ w.2 d.2 (K.st _ st s i' d.1)
  | .join .sum ts, k, st, w, d, i => by
    obtain ⟨h1, h2⟩ := anss_ok ts k st w.2 d i
    have h3 := sum_nn K (l := (anss o n ts st).1) fun x hx => (h1 x hx).1
    unfold ans
    exact ⟨by show 0 ≤ min 30 _; omega, by show min 30 _ ≤ 30; omega, h2⟩
  | .join .most ts, k, st, w, d, i => by
    obtain ⟨h1, h2⟩ := anss_ok ts k st w.2 d i
    unfold ans
    have hm : maxL (anss o n ts st).1 ∈ (anss o n ts st).1 := by
      have g : ∀ (l : List Int), l ≠ [] → maxL l ∈ l := by
        intro l
        induction l with
        | nil => intro z; exact absurd rfl z
        | cons a r ih =>
          intro _
          cases r with
          | nil => exact List.mem_singleton.mpr rfl
          | cons b r =>
            show max a (maxL (b :: r)) ∈ _
            rcases Int.le_total a (maxL (b :: r)) with q | q
            · rw [Int.max_eq_right q]; exact List.mem_cons_of_mem _ (ih (by intro z; cases z))
            · rw [Int.max_eq_left q]; exact List.mem_cons_self
      refine g _ fun z => ?_
      have e := anss_len o n ts st
      rw [z] at e
      have := w.1
      simp at e
      omega
    exact ⟨(h1 _ hm).1, (h1 _ hm).2, h2⟩
  | .join .least ts, k, st, w, d, i => by
    unfold ans
    exact ansl_ok ts 30 k st w.2 d i (by decide) (by decide)
theorem anss_ok : ∀ (ts : List T) (k : Nat) (st : S), WFs ts → Nms D ts → J (k + csts ts) st → (∀ x ∈ (anss o n ts st).1, 0 ≤ x ∧ x ≤ 30) ∧ J k (anss o n ts st).2
  | [], k, st, _, _, i => by unfold anss; exact ⟨fun x hx => (by cases hx), i⟩
  | t :: r, k, st, w, d, i => by
    have i' : J (k + csts r + cst t) st := by rw [Nat.add_assoc]; exact i
    obtain ⟨a1, a2, a3⟩ := ans_ok t (k + csts r) st w.1 d.1 i'
    obtain ⟨b1, b2⟩ := anss_ok r k (ans o n t st).2 w.2 d.2 a3
    unfold anss
    refine ⟨fun x hx => ?_, b2⟩
    rcases List.mem_cons.mp hx with q | q
    · rw [q]; exact ⟨a1, a2⟩
    · exact b1 x q
theorem ansl_ok : ∀ (ts : List T) (cur : Int) (k : Nat) (st : S), WFs ts → Nms D ts → J (k + csts ts) st → 0 ≤ cur → cur ≤ 30 → 0 ≤ (ansl o n ts cur st).1 ∧ (ansl o n ts cur st).1 ≤ 30 ∧ J k (ansl o n ts cur st).2
  | [], cur, k, st, _, _, i, h0, h1 => by unfold ansl; exact ⟨h0, h1, i⟩
  | t :: r, cur, k, st, w, d, i, h0, h1 => by
    have i' : J (k + csts r + cst t) st := by rw [Nat.add_assoc]; exact i
    obtain ⟨a1, a2, a3⟩ := ans_ok t (k + csts r) st w.1 d.1 i'
    unfold ansl
    split
    · exact ansl_ok r _ k _ w.2 d.2 a3 (by omega) (by omega)
    · exact ⟨h0, h1, K.add _ i⟩
end
end
theorem csts_drop {ts : List T} {t : T} {i : Nat} (h : ts[i]? = some t) : csts (ts.drop i) = csts (ts.drop (i + 1)) + cst t := by
  have hlt := (List.getElem?_eq_some_iff.mp h).1
  have z := (List.getElem?_eq_some_iff.mp h).2
  rw [List.drop_eq_getElem_cons hlt, z]
  rfl
/-! ### the heap around an asking -/
/-- all but what stands in M -/
def ButS (M : Addr → Prop) (H H' : Hp) : Prop := ∀ b u, H b = some u → ¬ M b → H' b = some u
theorem ButS.refl (M : Addr → Prop) (H : Hp) : ButS M H H := fun _ _ h _ => h
theorem ButS.trans {M : Addr → Prop} {H H1 H2 : Hp} (a : ButS M H H1) (b : ButS M H1 H2) : ButS M H H2 := fun c u h hc => b c u (a c u h hc) hc
theorem ButS.of_same {M : Addr → Prop} {H H1 : Hp} (a : Same H H1) : ButS M H H1 := fun c u h _ => a c u h
/-- what an asking may change: lists that hold no objects, and dicts -/
def MOk (M : Addr → Prop) (H : Hp) : Prop := ∀ b, M b → (∃ xs, H b = some (.lst xs) ∧ ∀ a r, xs ≠ .ref a :: r) ∨ ∃ kvs, H b = some (.dK kvs)
theorem MOk.keep {M : Addr → Prop} {H H' : Hp} (m : MOk M H) (b : ButS M H H') : Keep H H' := by
  refine ⟨fun c xs q => b c _ q fun hc => ?_, fun c a r q => b c _ q fun hc => ?_⟩
  · rcases m c hc with ⟨ys, e, _⟩ | ⟨kvs, e⟩ <;> (rw [q] at e; cases e)
  · rcases m c hc with ⟨ys, e, n⟩ | ⟨kvs, e⟩
    · rw [q] at e; cases e; exact n a r rfl
    · rw [q] at e; cases e
theorem MOk.tups {M : Addr → Prop} {H H' : Hp} (m : MOk M H) (b : ButS M H H') : Tups H H' := (m.keep b).1
theorem MOk.new {M : Addr → Prop} {H : Hp} (m : MOk M H) {a : Addr} (h : H a = none) : ¬ M a := fun hc => by
  rcases m a hc with ⟨xs, e, _⟩ | ⟨kvs, e⟩ <;> (rw [h] at e; cases e)
theorem MOk.code {M : Addr → Prop} {H : Hp} (m : MOk M H) {c : Addr} {q : Str} (h : LPre c q H) : ¬ M c := fun hc => by
  have h : H c = some (LamX.CodeO c q) := h
  unfold LamX.CodeO at h
  rcases m c hc with ⟨xs, e, _⟩ | ⟨kvs, e⟩ <;> (rw [h] at e; cases e)
def minL (l : List Int) : Int := l.foldl min 30
theorem minL_snoc (l : List Int) (x : Int) : minL (l ++ [x]) = min (minL l) x := by
  unfold minL
  rw [List.foldl_append]
  rfl
theorem minL_is {l : List Int} {m : Int} (hm : m ∈ l) (hle : ∀ x ∈ l, m ≤ x) (h30 : ∀ x ∈ l, x ≤ 30) : minL l = m := by
  have g : ∀ (l : List Int) (c : Int), (∀ x ∈ l, m ≤ x) → m ≤ c → (m ∈ l ∨ c = m) → l.foldl min c = m := by
    intro l
    induction l with
    | nil =>
      intro c _ _ h
      rcases h with h | h
      · cases h
      · exact h
    | cons x r ih =>
      intro c h1 h2 h3
      have hx := h1 x List.mem_cons_self
      refine ih (min c x) (fun y hy => h1 y (List.mem_cons_of_mem _ hy)) (by omega) ?_
      rcases h3 with h3 | h3
      · rcases List.mem_cons.mp h3 with z | z
        · right; omega
        · exact .inl z
      · right; omega
  exact g l 30 hle (h30 m hm) (.inl hm)
theorem ansl_zero {S : Type} {o : S → Str → Int} {n : S → Str → S} : ∀ (ts : List T) (st : S), ansl o n ts 0 st = (0, st)
  | [], st => by unfold ansl; rfl
  | t :: r, st => by unfold ansl; rw [if_neg (Int.lt_irrefl 0)]
theorem ansl_cons {S : Type} {o : S → Str → Int} {n : S → Str → S} {t : T} {r : List T} {cur : Int} {st : S} (h : 0 < cur) : ansl o n (t :: r) cur st = ansl o n r (min cur (ans o n t st).1) (ans o n t st).2 := by
  conv => lhs; unfold ansl
  rw [if_pos h]
end Aw

namespace Aw
open PySem L2
/-! ### the least numbers that fit -/
section
variable (f : Str → Int)
abbrev ansU (t : T) : Int × Unit := ans (S := Unit) (fun _ => f) (fun _ _ => ()) t ()
def ev (t : T) : Int := (ansU f t).1
def evl (ts : List T) (cur : Int) : Int := (ansl (S := Unit) (fun _ => f) (fun _ _ => ()) ts cur ()).1
theorem anssU : ∀ ts : List T, (anss (S := Unit) (fun _ => f) (fun _ _ => ()) ts ()).1 = ts.map (ev f)
  | [] => by unfold anss; rfl
  | t :: r => by
    have ih := anssU r
    unfold anss
    rw [List.map_cons, ← ih]
    rfl
theorem ev_num {k : Int} : ev f (.num k) = k := by unfold ev ansU ans; rfl
theorem ev_name {s : Str} : ev f (.name s) = f s := by unfold ev ansU ans; rfl
theorem ev_gate {s : Str} {b : Int} {t : T} : ev f (.gate s b t) = if f s < b then 0 else ev f t := by
  show (ans _ _ (.gate s b t) ()).1 = _
  unfold ans
  split <;> rfl
theorem ev_sum {ts : List T} : ev f (.join .sum ts) = min 30 (ts.map (ev f)).sum := by
  show (ans _ _ (.join .sum ts) ()).1 = _
  unfold ans
  rw [← anssU]
theorem ev_most {ts : List T} : ev f (.join .most ts) = maxL (ts.map (ev f)) := by
  show (ans _ _ (.join .most ts) ()).1 = _
  unfold ans
  rw [← anssU]
theorem ev_least {ts : List T} : ev f (.join .least ts) = evl f ts 30 := by
  show (ans _ _ (.join .least ts) ()).1 = _
  unfold ans
  rfl
theorem evl_nil {cur : Int} : evl f [] cur = cur := by unfold evl ansl; rfl
theorem evl_cons {t : T} {r : List T} {cur : Int} : evl f (t :: r) cur = if 0 < cur then evl f r (min cur (ev f t)) else cur := by
  show (ansl _ _ (t :: r) cur ()).1 = _
  unfold ansl
  split <;> rfl
end
theorem okU {f : Str → Int} (h : ∀ s, 0 ≤ f s ∧ f s ≤ 30) : AskOk (S := Unit) (fun _ => f) (fun _ _ => ()) (fun _ => True) (fun _ _ => True) :=
  ⟨fun _ _ s _ _ => (h s).1, fun _ _ s _ _ => (h s).2, fun _ _ _ _ _ => True.intro, fun _ _ _ => True.intro⟩
mutual
theorem nm_true : ∀ t : T, Nm (fun _ => True) t
  | .num _ => True.intro
  | .name _ => True.intro
  | .gate _ _ t => ⟨True.intro, nm_true t⟩
  | .join _ ts => nms_true ts
theorem nms_true : ∀ ts : List T, Nms (fun _ => True) ts
  | [] => True.intro
  | t :: r => ⟨nm_true t, nms_true r⟩
end
theorem ev_rng {f : Str → Int} (h : ∀ s, 0 ≤ f s ∧ f s ≤ 30) {t : T} (w : WF t) : 0 ≤ ev f t ∧ ev f t ≤ 30 := by
  obtain ⟨a, b, _⟩ := ans_ok (okU h) t 0 () w (nm_true t) True.intro
  exact ⟨a, b⟩
mutual
theorem ev_nn {f : Str → Int} (h : ∀ s, 0 ≤ f s) : ∀ t : T, WF t → 0 ≤ ev f t
  | .num k, w => by rw [ev_num]; exact w.1
  | .name s, _ => by rw [ev_name]; exact h s
  | .gate s b t, w => by
    rw [ev_gate]
    split
    · exact Int.le_refl 0
    · exact ev_nn h t w.2
  | .join .sum ts, w => by
    rw [ev_sum]
    have := evs_nn h ts w.2
    omega
  | .join .most ts, w => by rw [ev_most]; exact evm_nn h ts w.2
  | .join .least ts, w => by rw [ev_least]; exact evl_nn h ts 30 w.2 (by decide)
theorem evs_nn {f : Str → Int} (h : ∀ s, 0 ≤ f s) : ∀ ts : List T, WFs ts → 0 ≤ (ts.map (ev f)).sum
  | [], _ => Int.le_refl 0
  | t :: r, w => by
    have h1 := ev_nn h t w.1
    have h2 := evs_nn h r w.2
    rw [List.map_cons, List.sum_cons]
    omega
theorem evm_nn {f : Str → Int} (h : ∀ s, 0 ≤ f s) : ∀ ts : List T, WFs ts → 0 ≤ maxL (ts.map (ev f))
  | [], _ => Int.le_refl 0
  | [t], w => ev_nn h t w.1
  | t :: u :: r, w => by
    have h1 := ev_nn h t w.1
    show 0 ≤ max (ev f t) (maxL ((u :: r).map (ev f)))
    omega
theorem evl_nn {f : Str → Int} (h : ∀ s, 0 ≤ f s) : ∀ (ts : List T) (cur : Int), WFs ts → 0 ≤ cur → 0 ≤ evl f ts cur
  | [], cur, _, c => by rw [evl_nil]; exact c
  | t :: r, cur, w, c => by
    have h1 := ev_nn h t w.1
    rw [evl_cons]
    split
    · exact evl_nn h r _ w.2 (by omega)
    · exact c
end
mutual
theorem ev_mono {f g : Str → Int} (h0 : ∀ s, 0 ≤ f s) (h : ∀ s, f s ≤ g s) : ∀ t : T, WF t → ev f t ≤ ev g t
  | .num k, _ => by rw [ev_num, ev_num]; exact Int.le_refl k
  | .name s, _ => by rw [ev_name, ev_name]; exact h s
  | .gate s b t, w => by
    have ih := ev_mono h0 h t w.2
    have hs := h s
    have gn := ev_nn (fun s => Int.le_trans (h0 s) (h s)) t w.2
    rw [ev_gate, ev_gate]
    split
    · split
      · exact Int.le_refl 0
      · exact gn
    · rw [if_neg (by omega)]
      exact ih
  | .join .sum ts, w => by
    rw [ev_sum, ev_sum]
    have := evs_mono h0 h ts w.2
    omega
  | .join .most ts, w => by rw [ev_most, ev_most]; exact evm_mono h0 h ts w.2
  | .join .least ts, w => by rw [ev_least, ev_least]; exact evl_mono h0 h ts 30 30 w.2 (by decide) (Int.le_refl _)
theorem evs_mono {f g : Str → Int} (h0 : ∀ s, 0 ≤ f s) (h : ∀ s, f s ≤ g s) : ∀ ts : List T, WFs ts → (ts.map (ev f)).sum ≤ (ts.map (ev g)).sum
  | [], _ => Int.le_refl 0
  | t :: r, w => by
    have h1 := ev_mono h0 h t w.1
    have h2 := evs_mono h0 h r w.2
    rw [List.map_cons, List.map_cons, List.sum_cons, List.sum_cons]
    omega
theorem evm_mono {f g : Str → Int} (h0 : ∀ s, 0 ≤ f s) (h : ∀ s, f s ≤ g s) : ∀ ts : List T, WFs ts → maxL (ts.map (ev f)) ≤ maxL (ts.map (ev g))
  | [], _ => Int.le_refl 0
  | [t], w => ev_mono h0 h t w.1
  | t :: u :: r, w => by
    have h1 := ev_mono h0 h t w.1
    have h2 := evm_mono h0 h (u :: r) w.2
    show max (ev f t) (maxL ((u :: r).map (ev f))) ≤ max (ev g t) (maxL ((u :: r).map (ev g)))
    omega
theorem evl_mono {f g : Str → Int} (h0 : ∀ s, 0 ≤ f s) (h : ∀ s, f s ≤ g s) : ∀ (ts : List T) (c d : Int), WFs ts → 0 ≤ c → c ≤ d → evl f ts c ≤ evl g ts d
  | [], c, d, _, _, le => by rw [evl_nil, evl_nil]; exact le
  | t :: r, c, d, w, c0, le => by
    have h1 := ev_mono h0 h t w.1
    have h2 := ev_nn h0 t w.1
    have gn := evl_nn (fun s => Int.le_trans (h0 s) (h s)) (t :: r) d w (by omega)
    rw [evl_cons]
    split
    · rw [evl_cons, if_pos (by omega)]
      exact evl_mono h0 h r _ _ w.2 (by omega) (by omega)
    · omega
end
/-! ### rounds -/
def put1 (x : Str → Int) (s : Str) (v : Int) : Str → Int := fun z => if z = s then v else x z
/-- what stands on the way up: below each answer, below all that fit -/
structure Up (ws : List Str) (rc : Str → T) (x0 x : Str → Int) : Prop where
  out : ∀ s, s ∉ ws → x s = x0 s
  rng : ∀ s, 0 ≤ x s ∧ x s ≤ 30
  up : ∀ s, s ∈ ws → x s ≤ ev x (rc s)
  low : ∀ y : Str → Int, (∀ s, 0 ≤ y s) → (∀ s, s ∉ ws → x0 s ≤ y s) → (∀ s, s ∈ ws → ev y (rc s) ≤ y s) → ∀ s, x s ≤ y s
theorem Up.start {ws : List Str} {rc : Str → T} {x0 : Str → Int} (w : ∀ s ∈ ws, WF (rc s)) (h : ∀ s, 0 ≤ x0 s ∧ x0 s ≤ 30) (z : ∀ s, s ∈ ws → x0 s = 0) : Up ws rc x0 x0 :=
  ⟨fun _ _ => rfl, h, fun s hs => by rw [z s hs]; exact ev_nn (fun s => (h s).1) _ (w s hs), fun y y0 yo _ s => by
    by_cases c : s ∈ ws
    · rw [z s c]; exact y0 s
    · exact yo s c⟩
theorem Up.step {ws : List Str} {rc : Str → T} {x0 x : Str → Int} (w : ∀ s ∈ ws, WF (rc s)) (u : Up ws rc x0 x) {s : Str} (hs : s ∈ ws) : Up ws rc x0 (put1 x s (ev x (rc s))) ∧ ∀ z, x z ≤ put1 x s (ev x (rc s)) z := by
  have le : ∀ z, x z ≤ put1 x s (ev x (rc s)) z := fun z => by
    unfold put1
    split
    · next e => rw [e]; exact u.up s hs
    · exact Int.le_refl _
  refine ⟨⟨fun z hz => ?_, fun z => ?_, fun z hz => ?_, fun y y0 yo yw z => ?_⟩, le⟩
  · unfold put1
    rw [if_neg (fun e => hz (by rw [e]; exact hs))]
    exact u.out z hz
  · unfold put1
    split
    · exact ev_rng u.rng (w s hs)
    · exact u.rng z
  · have m := ev_mono (fun s => (u.rng s).1) le (rc z) (w z hz)
    unfold put1 at m ⊢
    split
    · next e => rw [e] at m ⊢; exact m
    · exact Int.le_trans (u.up z hz) m
  · have l := u.low y y0 yo yw
    unfold put1
    split
    · next e =>
      rw [e]
      exact Int.le_trans (ev_mono (fun s => (u.rng s).1) l (rc s) (w s hs)) (yw s hs)
    · exact l z
def rnd (rc : Str → T) : List Str → (Str → Int) → Str → Int
  | [], x => x
  | s :: r, x => rnd rc r (put1 x s (ev x (rc s)))
theorem Up.rnd {ws : List Str} {rc : Str → T} {x0 : Str → Int} (w : ∀ s ∈ ws, WF (rc s)) : ∀ (l : List Str) {x : Str → Int}, Up ws rc x0 x → (∀ s ∈ l, s ∈ ws) → Up ws rc x0 (rnd rc l x) ∧ ∀ z, x z ≤ Aw.rnd rc l x z
  | [], x, u, _ => ⟨u, fun z => Int.le_refl _⟩
  | s :: r, x, u, h => by
    obtain ⟨u1, l1⟩ := u.step w (h s List.mem_cons_self)
    obtain ⟨u2, l2⟩ := Up.rnd w r u1 fun z hz => h z (List.mem_cons_of_mem _ hz)
    exact ⟨u2, fun z => Int.le_trans (l1 z) (l2 z)⟩
/-- a round that changes nothing has come to numbers that fit -/
theorem rnd_fix {ws : List Str} {rc : Str → T} {x0 : Str → Int} (w : ∀ s ∈ ws, WF (rc s)) : ∀ (l : List Str) {x : Str → Int}, Up ws rc x0 x → (∀ s ∈ l, s ∈ ws) → (∀ z, rnd rc l x z = x z) → ∀ s ∈ l, x s = ev x (rc s)
  | [], _, _, _, _, s, hs => by cases hs
  | a :: r, x, u, h, e, s, hs => by
    obtain ⟨u1, l1⟩ := u.step w (h a List.mem_cons_self)
    obtain ⟨u2, l2⟩ := Up.rnd w r u1 fun z hz => h z (List.mem_cons_of_mem _ hz)
    have same : put1 x a (ev x (rc a)) = x := by
      funext z
      have h1 := l1 z
      have h2 := l2 z
      have h3 := e z
      unfold rnd at h3
      omega
    have ea : x a = ev x (rc a) := by
      have z := congrFun same a
      unfold put1 at z
      rw [if_pos rfl] at z
      exact z.symm
    rcases List.mem_cons.mp hs with q | q
    · rw [q]; exact ea
    · refine rnd_fix w r u (fun z hz => h z (List.mem_cons_of_mem _ hz)) (fun z => ?_) s q
      have h3 := e z
      unfold rnd at h3
      rw [same] at h3
      exact h3
def gap (ws : List Str) (x : Str → Int) : Nat := (ws.map fun s => (30 - x s).toNat).sum
theorem gap_le {x y : Str → Int} (h : ∀ z, x z ≤ y z) : ∀ ws : List Str, gap ws y ≤ gap ws x
  | [] => Nat.le_refl _
  | s :: r => by
    have ih := gap_le h r
    have hs := h s
    unfold gap at ih ⊢
    rw [List.map_cons, List.map_cons, List.sum_cons, List.sum_cons]
    omega
theorem gap_lt {x y : Str → Int} (h : ∀ z, x z ≤ y z) (t : ∀ z, y z ≤ 30) : ∀ {ws : List Str} {s : Str}, s ∈ ws → x s < y s → gap ws y < gap ws x
  | a :: r, s, hs, lt => by
    have ha := h a
    have ta := t a
    have le := gap_le h r
    unfold gap at le ⊢
    rw [List.map_cons, List.map_cons, List.sum_cons, List.sum_cons]
    rcases List.mem_cons.mp hs with q | q
    · subst q; omega
    · have ih := gap_lt h t q lt
      unfold gap at ih
      omega
/-- the least numbers that fit -/
structure Lfp (ws : List Str) (rc : Str → T) (x0 x : Str → Int) : Prop where
  out : ∀ s, s ∉ ws → x s = x0 s
  rng : ∀ s, 0 ≤ x s ∧ x s ≤ 30
  fit : ∀ s, s ∈ ws → x s = ev x (rc s)
  low : ∀ y : Str → Int, (∀ s, 0 ≤ y s) → (∀ s, s ∉ ws → x0 s ≤ y s) → (∀ s, s ∈ ws → ev y (rc s) ≤ y s) → ∀ s, x s ≤ y s
theorem Up.lfp {ws : List Str} {rc : Str → T} {x0 x : Str → Int} (w : ∀ s ∈ ws, WF (rc s)) (u : Up ws rc x0 x) (e : ∀ z, Aw.rnd rc ws x z = x z) : Lfp ws rc x0 x := ⟨u.out, u.rng, rnd_fix w ws u (fun _ h => h) e, u.low⟩
theorem Lfp.one {ws : List Str} {rc : Str → T} {x0 x y : Str → Int} (a : Lfp ws rc x0 x) (b : Lfp ws rc x0 y) (s : Str) : x s = y s := by
  have h1 := a.low y (fun s => (b.rng s).1) (fun s h => Int.le_of_eq (b.out s h).symm) (fun s h => Int.le_of_eq (b.fit s h).symm) s
  have h2 := b.low x (fun s => (a.rng s).1) (fun s h => Int.le_of_eq (a.out s h).symm) (fun s h => Int.le_of_eq (a.fit s h).symm) s
  omega
end Aw

namespace Aw
open PySem L2
/-! ### dicts of numbers by names -/
theorem hits_int {A : Around} {s : Shared} {ls : List (Key × V)} {vb : List (Key × Value)} (rb : KV ls vb) : ∀ {ks : List (Key × V)} {va : List (Key × Value)}, KV ks va → (∀ p ∈ ks, ∃ i j : Int, p.2 = .int i ∧ valV ls p.1 = some (.int j)) →
    PySem.W.KeqHits A s vb va (ks.all fun p => decide (valV ls p.1 = some p.2)) := by
  intro ks va ra
  unfold KV at ra
  induction ra with
  | nil => intro _; exact .nil
  | @cons p q ps qs h t ih =>
    intro hp
    obtain ⟨h1, h2⟩ := h
    obtain ⟨i, j, e, f⟩ := hp p List.mem_cons_self
    have rr : RelO (some (.int j)) (valueAt vb p.1) := by rw [← f]; exact rb.val p.1
    obtain ⟨y, hy, ry⟩ := rr.some_of
    obtain ⟨k, v⟩ := q
    have h1' : p.1 = k := h1
    rw [h1'] at hy
    rw [e] at h2
    obtain ⟨t1, rfl⟩ := (show ∃ t, v = Value.int i t from h2)
    obtain ⟨t2, rfl⟩ := (show ∃ t, y = Value.int j t from ry)
    rw [List.all_cons]
    have ee : decide (valV ls p.1 = some p.2) = decide (i = j) := by
      rw [f, e]
      by_cases c : i = j
      · subst c; rw [decide_eq_true rfl, decide_eq_true rfl]
      · rw [decide_eq_false (fun z => c (V.int.inj (Option.some.inj z)).symm), decide_eq_false c]
    rw [ee]
    exact .hit hy (PySem.SeqAt.EqAt.int_int i t1 j t2) (ih fun p' hm => hp p' (List.mem_cons_of_mem _ hm))
section
variable {X : Cx}
def rNeDI : R2 := fun x y H Q => ∃ a b ks ls, x = .ref a ∧ y = .ref b ∧ H a = some (.dK ks) ∧ H b = some (.dK ls) ∧ ks.length = ls.length ∧ (∀ p ∈ ks, ∃ i j : Int, p.2 = .int i ∧ valV ls p.1 = some (.int j)) ∧ Q (.bl (!(ks.all fun p => decide (valV ls p.1 = some p.2)))) H
theorem op_ne_dictI (hu : X.A.units < cLine) : OpR X (compareOp .NotEq) rNeDI := by
  intro pins s σ H x y v u Q I rx ry h
  obtain ⟨a, b, ks, ls, rfl, rfl, ea, eb, hlen, hp, q⟩ := h
  obtain rfl : v = Value.ref a := rx
  obtain rfl : u = Value.ref b := ry
  obtain ⟨_, ya, va, ra, da⟩ := (show ObjOk X.prog X.w H s.heap a (.dK ks) from I.hok a _ ea)
  obtain ⟨_, yb, vb, rb, db⟩ := (show ObjOk X.prog X.w H s.heap b (.dK ls) from I.hok b _ eb)
  have hl : va.length = vb.length := by rw [← ra.length, ← rb.length]; exact hlen
  exact PySem.W.keq_ne (knd := mixKind X.prog X.w) ya yb da db hu (fun _ => hits_int rb ra hp) (fin_bl I q (by simp [hl]))
end
def num (kvs : List (Key × V)) (s : Str) : Int := match valV kvs (Sum.inr s) with
  | some (.int v) => v
  | _ => 0
/-- names with numbers from 0 to 30, each once -/
structure SD (kvs : List (Key × V)) : Prop where
  nd : (kvs.map (·.1)).Nodup
  ok : ∀ p ∈ kvs, ∃ (s : Str) (i : Int), p = (Sum.inr s, .int i) ∧ 0 ≤ i ∧ i ≤ 30
theorem valV_mem {κ : Type} [DecidableEq κ] {k : κ} {v : V} : ∀ {kvs : List (κ × V)}, valV kvs k = some v → (k, v) ∈ kvs
  | [], h => by cases h
  | p :: r, h => by
    by_cases e : p.1 = k
    · rw [valV_pos e] at h
      cases h
      rw [← e]
      exact List.mem_cons_self
    · rw [valV_neg e] at h
      exact List.mem_cons_of_mem _ (valV_mem h)
theorem mem_valV {κ : Type} [DecidableEq κ] {p : κ × V} : ∀ {kvs : List (κ × V)}, (kvs.map (·.1)).Nodup → p ∈ kvs → valV kvs p.1 = some p.2
  | q :: r, nd, h => by
    rw [List.map_cons, List.nodup_cons] at nd
    rcases List.mem_cons.mp h with e | e
    · rw [e]; exact valV_pos rfl
    · rw [valV_neg (fun z => nd.1 (by rw [z]; exact List.mem_map_of_mem e))]
      exact mem_valV nd.2 e
theorem SD.rng {kvs : List (Key × V)} (d : SD kvs) (s : Str) : 0 ≤ num kvs s ∧ num kvs s ≤ 30 := by
  unfold num
  split
  · next v e =>
    obtain ⟨s', i, e', h0, h1⟩ := d.ok _ (valV_mem e)
    cases e'
    exact ⟨h0, h1⟩
  · exact ⟨Int.le_refl 0, by decide⟩
theorem SD.val {kvs : List (Key × V)} (d : SD kvs) {s : Str} {v : V} (e : valV kvs (Sum.inr s) = some v) : v = .int (num kvs s) := by
  obtain ⟨s', i, e', _, _⟩ := d.ok _ (valV_mem e)
  cases e'
  unfold num
  rw [e]
theorem num_get {kvs : List (Key × V)} (d : SD kvs) (s : Str) : (valV kvs (Sum.inr s)).getD (.int 0) = .int (num kvs s) := by
  cases e : valV kvs (Sum.inr s) with
  | none =>
    unfold num
    rw [e]
    rfl
  | some v => rw [d.val e]; rfl
theorem num_put (kvs : List (Key × V)) (s : Str) (v : Int) : num (putK kvs (Sum.inr s) (.int v)) = put1 (num kvs) s v := by
  funext z
  unfold num put1
  rw [valV_put]
  by_cases c : z = s
  · subst c
    rw [if_pos rfl, if_pos rfl]
  · rw [if_neg (fun e => c (Sum.inr.inj e)), if_neg c]
theorem keys_put {kvs : List (Key × V)} {k : Key} {v : V} (h : (valV kvs k).isSome = true) : (putK kvs k v).map (·.1) = kvs.map (·.1) := by
  unfold putK
  rw [valV_any, if_pos h, List.map_map]
  congr 1
  funext p
  simp only [Function.comp]
  split <;> rfl
theorem SD.put {kvs : List (Key × V)} (d : SD kvs) {s : Str} {v : Int} (h : (valV kvs (Sum.inr s)).isSome = true) (h0 : 0 ≤ v) (h1 : v ≤ 30) : SD (putK kvs (Sum.inr s) (.int v)) := by
  refine ⟨by rw [keys_put h]; exact d.nd, fun p hp => ?_⟩
  unfold putK at hp
  rw [valV_any, if_pos h] at hp
  obtain ⟨q, hq, e⟩ := List.mem_map.mp hp
  by_cases c : q.1 = Sum.inr s
  · rw [if_pos c, c] at e
    exact ⟨s, v, e.symm, h0, h1⟩
  · rw [if_neg c] at e
    rw [← e]
    exact d.ok q hq
def rndK (rc : Str → T) : List Str → List (Key × V) → List (Key × V)
  | [], k => k
  | s :: r, k => rndK rc r (putK k (Sum.inr s) (.int (ev (num k) (rc s))))
theorem num_rnd (rc : Str → T) : ∀ (l : List Str) (k : List (Key × V)), num (rndK rc l k) = rnd rc l (num k)
  | [], k => rfl
  | s :: r, k => by
    show num (rndK rc r _) = rnd rc r _
    rw [num_rnd rc r, num_put]
theorem rndK_snoc (rc : Str → T) : ∀ (l : List Str) (s : Str) (k : List (Key × V)), rndK rc (l ++ [s]) k = putK (rndK rc l k) (Sum.inr s) (.int (ev (num (rndK rc l k)) (rc s)))
  | [], s, k => rfl
  | a :: r, s, k => rndK_snoc rc r s _
theorem rndK_ok {rc : Str → T} : ∀ {l : List Str} {k : List (Key × V)}, SD k → (∀ s ∈ l, WF (rc s)) → (∀ s ∈ l, (valV k (Sum.inr s)).isSome = true) → SD (rndK rc l k) ∧ (rndK rc l k).map (·.1) = k.map (·.1)
  | [], k, d, _, _ => ⟨d, rfl⟩
  | s :: r, k, d, w, h => by
    have hs := h s List.mem_cons_self
    obtain ⟨v0, v1⟩ := ev_rng d.rng (w s List.mem_cons_self)
    obtain ⟨a, b⟩ := rndK_ok (rc := rc) (l := r) (d.put hs v0 v1) (fun z hz => w z (List.mem_cons_of_mem _ hz)) (fun z hz => by
      rw [valV_put]
      split
      · rfl
      · exact h z (List.mem_cons_of_mem _ hz))
    exact ⟨a, b.trans (keys_put hs)⟩
theorem key_some {kvs : List (Key × V)} {k : Key} : (valV kvs k).isSome = true ↔ k ∈ kvs.map (·.1) := by
  constructor
  · intro h
    cases e : valV kvs k with
    | none => rw [e] at h; cases h
    | some v => exact List.mem_map.mpr ⟨_, valV_mem e, rfl⟩
  · intro h
    obtain ⟨p, hp, e⟩ := List.mem_map.mp h
    rw [← e, ← valV_any]
    exact List.any_eq_true.mpr ⟨p, hp, decide_eq_true rfl⟩
/-- two such dicts of the same names compared -/
theorem all_same {ks ls : List (Key × V)} (a : SD ks) (b : SD ls) (hk : ks.map (·.1) = ls.map (·.1)) :
    ks.length = ls.length ∧ (∀ p ∈ ks, ∃ i j : Int, p.2 = .int i ∧ valV ls p.1 = some (.int j)) ∧ ((ks.all fun p => decide (valV ls p.1 = some p.2)) = true → ∀ z, num ks z = num ls z) ∧ ((ks.all fun p => decide (valV ls p.1 = some p.2)) = false → ∃ z, num ks z ≠ num ls z) := by
  have hin : ∀ p ∈ ks, ∃ i j : Int, p.2 = .int i ∧ valV ls p.1 = some (.int j) := fun p hp => by
    obtain ⟨s, i, e, _, _⟩ := a.ok p hp
    subst e
    have hm : (Sum.inr s : Key) ∈ ls.map (·.1) := by rw [← hk]; exact List.mem_map_of_mem hp
    obtain ⟨v, hv⟩ := Option.isSome_iff_exists.mp (key_some.mpr hm)
    obtain ⟨s', j, e', _, _⟩ := b.ok _ (valV_mem hv)
    cases e'
    exact ⟨i, j, rfl, hv⟩
  refine ⟨by have := congrArg List.length hk; simpa using this, hin, fun h z => ?_, fun h => ?_⟩
  · cases e : valV ks (Sum.inr z) with
    | some v =>
      have hv := a.val e
      subst hv
      have q := of_decide_eq_true (List.all_eq_true.mp h _ (valV_mem e))
      have := b.val q
      exact V.int.inj this
    | none =>
      have e2 : valV ls (Sum.inr z) = none := by
        cases e2 : valV ls (Sum.inr z) with
        | none => rfl
        | some v =>
          have : (Sum.inr z : Key) ∈ ks.map (·.1) := by rw [hk]; exact key_some.mp (by rw [e2]; rfl)
          have := key_some.mpr this
          rw [e] at this
          cases this
      unfold num
      rw [e, e2]
  · obtain ⟨p, hp, hn⟩ := List.all_eq_false.mp h
    obtain ⟨s, i, e, _, _⟩ := a.ok p hp
    subst e
    have h1 := mem_valV a.nd hp
    refine ⟨s, fun z => hn (decide_eq_true ?_)⟩
    obtain ⟨i', j, e1, e2⟩ := hin _ hp
    have h3 := b.val e2
    have h4 := a.val h1
    show valV ls (Sum.inr s) = some (.int i)
    rw [e2, h3, ← z]
    exact congrArg some h4.symm
end Aw

namespace Aw
open PySem L2
def top (i : Nat) : Stmt := PySem.Challenge.pw_anewhall_k10_wells_and_noughts.main.body.getD i (.Pass ⟨0, 0, 0, 0⟩)
abbrev s__wall : Stmt := top 0
/- slots 0:k -/
theorem sc__wall : FnScope ["k"] ["k"] (defScope s__wall) := ⟨rfl, rfl, rfl, by decide +kernel, rfl, by decide +kernel, by decide +kernel⟩
abbrev s_Run_init : Stmt := inClass (top 2) 0
/- slots 0:self 1:name 2:reads 3:answer -/
theorem sc_Run_init : FnScope ["self", "name", "reads", "answer"] ["self", "name", "reads", "answer"] (defScope s_Run_init) := ⟨rfl, rfl, rfl, by decide +kernel, rfl, by decide +kernel, by decide +kernel⟩
abbrev s_Run_names_read : Stmt := inClass (top 2) 1
/- slots 0:self 1:name 2:_ -/
theorem sc_Run_names_read : FnScope ["self", "name", "_"] ["self"] (defScope s_Run_names_read) := ⟨rfl, rfl, rfl, by decide +kernel, rfl, by decide +kernel, by decide +kernel⟩
abbrev s_Knot_init : Stmt := inClass (top 3) 0
/- slots 0:self 1:recipes 2:ran -/
theorem sc_Knot_init : FnScope ["self", "recipes", "ran"] ["self", "recipes", "ran"] (defScope s_Knot_init) := ⟨rfl, rfl, rfl, by decide +kernel, rfl, by decide +kernel, by decide +kernel⟩
abbrev s_Knot_last_run : Stmt := inClass (top 3) 1
/- slots 0:self 1:name -/
theorem sc_Knot_last_run : FnScope ["self", "name"] ["self", "name"] (defScope s_Knot_last_run) := ⟨rfl, rfl, rfl, by decide +kernel, rfl, by decide +kernel, by decide +kernel⟩
abbrev s_Knot_first_run_with : Stmt := inClass (top 3) 2
/- slots 0:self 1:name 2:answer 3:run; cells answer -/
theorem sc_Knot_first_run_with : FnScope ["self", "name", "answer", "run"] ["self", "name", "answer"] (defScope s_Knot_first_run_with) := ⟨rfl, rfl, rfl, by decide +kernel, rfl, by decide +kernel, by decide +kernel⟩
abbrev s_Knot_is_ring : Stmt := inClass (top 3) 3
/- slots 0:self 1:name; cells self -/
theorem sc_Knot_is_ring : FnScope ["self", "name"] ["self"] (defScope s_Knot_is_ring) := ⟨rfl, rfl, rfl, by decide +kernel, rfl, by decide +kernel, by decide +kernel⟩
abbrev s_Knot_works_from : Stmt := inClass (top 3) 4
/- slots 0:self 1:entry 2:works 3:at 4:run 5:name -/
theorem sc_Knot_works_from : FnScope ["self", "entry", "works", "at", "run", "name"] ["self", "entry"] (defScope s_Knot_works_from) := ⟨rfl, rfl, rfl, by decide +kernel, rfl, by decide +kernel, by decide +kernel⟩
abbrev s_Knot_outside_from : Stmt := inClass (top 3) 5
/- slots 0:self 1:entry 2:outside 3:seen 4:work 5:waiting 6:name 7:answer -/
theorem sc_Knot_outside_from : FnScope ["self", "entry", "outside", "seen", "work", "waiting", "name", "answer"] ["self", "entry"] (defScope s_Knot_outside_from) := ⟨rfl, rfl, rfl, by decide +kernel, rfl, by decide +kernel, by decide +kernel⟩
abbrev s_shown : Stmt := top 8
/- slots 0:recipe 1:kind 2:_ 3:name 4:bound 5:piece 6:parts 7:sign; cells kind -/
theorem sc_shown : FnScope ["recipe", "kind", "_", "name", "bound", "piece", "parts", "sign"] ["recipe"] (defScope s_shown) := ⟨rfl, rfl, rfl, by decide +kernel, rfl, by decide +kernel, by decide +kernel⟩
abbrev s_shown_within : Stmt := top 9
/- slots 0:kind 1:piece 2:text -/
theorem sc_shown_within : FnScope ["kind", "piece", "text"] ["kind", "piece"] (defScope s_shown_within) := ⟨rfl, rfl, rfl, by decide +kernel, rfl, by decide +kernel, by decide +kernel⟩
abbrev s_answer_of : Stmt := top 10
/- slots 0:recipe 1:ask 2:kind 3:answers 4:piece; cells ask -/
theorem sc_answer_of : FnScope ["recipe", "ask", "kind", "answers", "piece"] ["recipe", "ask"] (defScope s_answer_of) := ⟨rfl, rfl, rfl, by decide +kernel, rfl, by decide +kernel, by decide +kernel⟩
abbrev s_gate_answer : Stmt := top 11
/- slots 0:recipe 1:ask 2:_ 3:name 4:bound 5:piece -/
theorem sc_gate_answer : FnScope ["recipe", "ask", "_", "name", "bound", "piece"] ["recipe", "ask"] (defScope s_gate_answer) := ⟨rfl, rfl, rfl, by decide +kernel, rfl, by decide +kernel, by decide +kernel⟩
abbrev s_least_answer : Stmt := top 12
/- slots 0:pieces 1:ask 2:answers 3:piece 4:answer -/
theorem sc_least_answer : FnScope ["pieces", "ask", "answers", "piece", "answer"] ["pieces", "ask"] (defScope s_least_answer) := ⟨rfl, rfl, rfl, by decide +kernel, rfl, by decide +kernel, by decide +kernel⟩
abbrev s_knots_of : Stmt := top 14
/- slots 0:names 1:leans 2:name 3:within 4:backward 5:other 6:placed 7:knots 8:knot 9:each -/
theorem sc_knots_of : FnScope ["names", "leans", "name", "within", "backward", "other", "placed", "knots", "knot", "each"] ["names", "leans"] (defScope s_knots_of) := ⟨rfl, rfl, rfl, by decide +kernel, rfl, by decide +kernel, by decide +kernel⟩
abbrev s_knot_of : Stmt := top 15
/- slots 0:name 1:within 2:backward 3:ahead 4:behind 5:other; cells name ahead behind -/
theorem sc_knot_of : FnScope ["name", "within", "backward", "ahead", "behind", "other"] ["name", "within", "backward"] (defScope s_knot_of) := ⟨rfl, rfl, rfl, by decide +kernel, rfl, by decide +kernel, by decide +kernel⟩
abbrev s_reached : Stmt := top 16
/- slots 0:name 1:leans 2:found 3:waiting 4:other -/
theorem sc_reached : FnScope ["name", "leans", "found", "waiting", "other"] ["name", "leans"] (defScope s_reached) := ⟨rfl, rfl, rfl, by decide +kernel, rfl, by decide +kernel, by decide +kernel⟩
abbrev s_Asking_init : Stmt := inClass (top 18) 0
/- slots 0:self 1:numbers 2:recipes 3:kept -/
theorem sc_Asking_init : FnScope ["self", "numbers", "recipes", "kept"] ["self", "numbers", "recipes", "kept"] (defScope s_Asking_init) := ⟨rfl, rfl, rfl, by decide +kernel, rfl, by decide +kernel, by decide +kernel⟩
abbrev s_Asking_outcome : Stmt := inClass (top 18) 1
/- slots 0:self 1:name -/
theorem sc_Asking_outcome : FnScope ["self", "name"] ["self", "name"] (defScope s_Asking_outcome) := ⟨rfl, rfl, rfl, by decide +kernel, rfl, by decide +kernel, by decide +kernel⟩
abbrev s_Asking_stands_at : Stmt := inClass (top 18) 2
/- slots 0:self 1:name -/
theorem sc_Asking_stands_at : FnScope ["self", "name"] ["self", "name"] (defScope s_Asking_stands_at) := ⟨rfl, rfl, rfl, by decide +kernel, rfl, by decide +kernel, by decide +kernel⟩
abbrev s_Asking_come_to : Stmt := inClass (top 18) 3
/- slots 0:self 1:name 2:reader -/
theorem sc_Asking_come_to : FnScope ["self", "name", "reader"] ["self", "name", "reader"] (defScope s_Asking_come_to) := ⟨rfl, rfl, rfl, by decide +kernel, rfl, by decide +kernel, by decide +kernel⟩
abbrev s_Asking_begin : Stmt := inClass (top 18) 4
/- slots 0:self 1:name 2:other -/
theorem sc_Asking_begin : FnScope ["self", "name", "other"] ["self", "name"] (defScope s_Asking_begin) := ⟨rfl, rfl, rfl, by decide +kernel, rfl, by decide +kernel, by decide +kernel⟩
abbrev s_Asking_is_good : Stmt := inClass (top 18) 5
/- slots 0:self 1:name 2:knot 3:other 4:answer 5:leads_back -/
theorem sc_Asking_is_good : FnScope ["self", "name", "knot", "other", "answer", "leads_back"] ["self", "name"] (defScope s_Asking_is_good) := ⟨rfl, rfl, rfl, by decide +kernel, rfl, by decide +kernel, by decide +kernel⟩
abbrev s_Asking_is_odd : Stmt := inClass (top 18) 6
/- slots 0:self 1:knot 2:name 3:recipe; cells self -/
theorem sc_Asking_is_odd : FnScope ["self", "knot", "name", "recipe"] ["self", "knot"] (defScope s_Asking_is_odd) := ⟨rfl, rfl, rfl, by decide +kernel, rfl, by decide +kernel, by decide +kernel⟩
abbrev s_Asking_let_go : Stmt := inClass (top 18) 7
/- slots 0:self 1:name 2:knot 3:other -/
theorem sc_Asking_let_go : FnScope ["self", "name", "knot", "other"] ["self", "name"] (defScope s_Asking_let_go) := ⟨rfl, rfl, rfl, by decide +kernel, rfl, by decide +kernel, by decide +kernel⟩
abbrev s_Asking_run : Stmt := inClass (top 18) 8
/- slots 0:self 1:name 2:ask 3:answer 4:run 5:reads; cells self name reads -/
theorem sc_Asking_run : FnScope ["self", "name", "ask", "answer", "run", "reads"] ["self", "name"] (defScope s_Asking_run) := ⟨rfl, rfl, rfl, by decide +kernel, rfl, by decide +kernel, by decide +kernel⟩
abbrev s_Asking_settle : Stmt := inClass (top 18) 9
/- slots 0:self 1:first 2:risen 3:name -/
theorem sc_Asking_settle : FnScope ["self", "first", "risen", "name"] ["self", "first"] (defScope s_Asking_settle) := ⟨rfl, rfl, rfl, by decide +kernel, rfl, by decide +kernel, by decide +kernel⟩
abbrev s_Asking_risen_from : Stmt := inClass (top 18) 10
/- slots 0:self 1:first 2:works 3:name; cells self works -/
theorem sc_Asking_risen_from : FnScope ["self", "first", "works", "name"] ["self", "first"] (defScope s_Asking_risen_from) := ⟨rfl, rfl, rfl, by decide +kernel, rfl, by decide +kernel, by decide +kernel⟩
abbrev s_Asking_come_to_since : Stmt := inClass (top 18) 11
/- slots 0:self 1:first 2:name 3:place; cells self first -/
theorem sc_Asking_come_to_since : FnScope ["self", "first", "name", "place"] ["self", "first"] (defScope s_Asking_come_to_since) := ⟨rfl, rfl, rfl, by decide +kernel, rfl, by decide +kernel, by decide +kernel⟩
abbrev s_Asking_has_risen : Stmt := inClass (top 18) 12
/- slots 0:self 1:name 2:reads 3:other 4:answer; cells self -/
theorem sc_Asking_has_risen : FnScope ["self", "name", "reads", "other", "answer"] ["self", "name"] (defScope s_Asking_has_risen) := ⟨rfl, rfl, rfl, by decide +kernel, rfl, by decide +kernel, by decide +kernel⟩
abbrev s_Asking_keep : Stmt := inClass (top 18) 13
/- slots 0:self 1:name 2:leans 3:names 4:recipes 5:knot 6:runs; cells self -/
theorem sc_Asking_keep : FnScope ["self", "name", "leans", "names", "recipes", "knot", "runs"] ["self"] (defScope s_Asking_keep) := ⟨rfl, rfl, rfl, by decide +kernel, rfl, by decide +kernel, by decide +kernel⟩
abbrev s_is_name : Stmt := top 27
/- slots 0:text 1:sign -/
theorem sc_is_name : FnScope ["text", "sign"] ["text"] (defScope s_is_name) := ⟨rfl, rfl, rfl, by decide +kernel, rfl, by decide +kernel, by decide +kernel⟩
abbrev s_Hall_init : Stmt := inClass (top 30) 0
/- slots 0:self -/
theorem sc_Hall_init : FnScope ["self"] ["self"] (defScope s_Hall_init) := ⟨rfl, rfl, rfl, by decide +kernel, rfl, by decide +kernel, by decide +kernel⟩
abbrev s_Hall_put : Stmt := inClass (top 30) 1
/- slots 0:self 1:name 2:number -/
theorem sc_Hall_put : FnScope ["self", "name", "number"] ["self", "name", "number"] (defScope s_Hall_put) := ⟨rfl, rfl, rfl, by decide +kernel, rfl, by decide +kernel, by decide +kernel⟩
abbrev s_Hall_make : Stmt := inClass (top 30) 2
/- slots 0:self 1:name 2:text -/
theorem sc_Hall_make : FnScope ["self", "name", "text"] ["self", "name", "text"] (defScope s_Hall_make) := ⟨rfl, rfl, rfl, by decide +kernel, rfl, by decide +kernel, by decide +kernel⟩
abbrev s_Hall_check_room : Stmt := inClass (top 30) 3
/- slots 0:self 1:name -/
theorem sc_Hall_check_room : FnScope ["self", "name"] ["self", "name"] (defScope s_Hall_check_room) := ⟨rfl, rfl, rfl, by decide +kernel, rfl, by decide +kernel, by decide +kernel⟩
abbrev s_Hall_ask : Stmt := inClass (top 30) 4
/- slots 0:self 1:name 2:asking 3:answer -/
theorem sc_Hall_ask : FnScope ["self", "name", "asking", "answer"] ["self", "name"] (defScope s_Hall_ask) := ⟨rfl, rfl, rfl, by decide +kernel, rfl, by decide +kernel, by decide +kernel⟩
abbrev s_Hall_runs : Stmt := inClass (top 30) 5
/- slots 0:self 1:told 2:run -/
theorem sc_Hall_runs : FnScope ["self", "told", "run"] ["self"] (defScope s_Hall_runs) := ⟨rfl, rfl, rfl, by decide +kernel, rfl, by decide +kernel, by decide +kernel⟩
abbrev s_Hall_leans : Stmt := inClass (top 30) 6
/- slots 0:self 1:name -/
theorem sc_Hall_leans : FnScope ["self", "name"] ["self", "name"] (defScope s_Hall_leans) := ⟨rfl, rfl, rfl, by decide +kernel, rfl, by decide +kernel, by decide +kernel⟩
abbrev s_Hall_rings : Stmt := inClass (top 30) 7
/- slots 0:self 1:rings 2:name 3:knot 4:names -/
theorem sc_Hall_rings : FnScope ["self", "rings", "name", "knot", "names"] ["self"] (defScope s_Hall_rings) := ⟨rfl, rfl, rfl, by decide +kernel, rfl, by decide +kernel, by decide +kernel⟩
abbrev s_Hall_mark : Stmt := inClass (top 30) 8
/- slots 0:self -/
theorem sc_Hall_mark : FnScope ["self"] ["self"] (defScope s_Hall_mark) := ⟨rfl, rfl, rfl, by decide +kernel, rfl, by decide +kernel, by decide +kernel⟩
abbrev s_Hall_back : Stmt := inClass (top 30) 9
/- slots 0:self 1:point -/
theorem sc_Hall_back : FnScope ["self", "point"] ["self", "point"] (defScope s_Hall_back) := ⟨rfl, rfl, rfl, by decide +kernel, rfl, by decide +kernel, by decide +kernel⟩
abbrev s_Hall_wells : Stmt := inClass (top 30) 10
/- slots 0:self 1:name; cells self -/
theorem sc_Hall_wells : FnScope ["self", "name"] ["self"] (defScope s_Hall_wells) := ⟨rfl, rfl, rfl, by decide +kernel, rfl, by decide +kernel, by decide +kernel⟩
abbrev s_Hall_works : Stmt := inClass (top 30) 11
/- slots 0:self 1:name; cells self -/
theorem sc_Hall_works : FnScope ["self", "name"] ["self"] (defScope s_Hall_works) := ⟨rfl, rfl, rfl, by decide +kernel, rfl, by decide +kernel, by decide +kernel⟩
abbrev s_check_name : Stmt := top 31
/- slots 0:text -/
theorem sc_check_name : FnScope ["text"] ["text"] (defScope s_check_name) := ⟨rfl, rfl, rfl, by decide +kernel, rfl, by decide +kernel, by decide +kernel⟩
abbrev s_law_cell_at : Stmt := top 33
/- slots 0:_law_script 1:_law_k -/
theorem sc_law_cell_at : FnScope ["_law_script", "_law_k"] ["_law_script", "_law_k"] (defScope s_law_cell_at) := ⟨rfl, rfl, rfl, by decide +kernel, rfl, by decide +kernel, by decide +kernel⟩
abbrev s_law_names : Stmt := top 34
/- slots 0:_law_cell 1:_law_many 2:_law_letters 3:_law_size 4:_law_at 5:_law_out 6:_law_k 7:_law_name 8:_law_place 9:_law_step -/
theorem sc_law_names : FnScope ["_law_cell", "_law_many", "_law_letters", "_law_size", "_law_at", "_law_out", "_law_k", "_law_name", "_law_place", "_law_step"] ["_law_cell", "_law_many"] (defScope s_law_names) := ⟨rfl, rfl, rfl, by decide +kernel, rfl, by decide +kernel, by decide +kernel⟩
abbrev s_law_whole : Stmt := top 35
/- slots 0:_law_found -/
theorem sc_law_whole : FnScope ["_law_found"] ["_law_found"] (defScope s_law_whole) := ⟨rfl, rfl, rfl, by decide +kernel, rfl, by decide +kernel, by decide +kernel⟩
abbrev s_law_sorted : Stmt := top 36
/- slots 0:_law_wells 1:_law_name; cells _law_wells -/
theorem sc_law_sorted : FnScope ["_law_wells", "_law_name"] ["_law_wells"] (defScope s_law_sorted) := ⟨rfl, rfl, rfl, by decide +kernel, rfl, by decide +kernel, by decide +kernel⟩
abbrev s_law : Stmt := top 37
/- slots 0:_law_script 1:_law_names_here 2:_law_halls 3:_law_wells 4:_law_turn 5:_law_cell 6:_law_name 7:_law_found 8:_law_k; cells _law_found -/
theorem sc_law : FnScope ["_law_script", "_law_names_here", "_law_halls", "_law_wells", "_law_turn", "_law_cell", "_law_name", "_law_found", "_law_k"] ["_law_script"] (defScope s_law) := ⟨rfl, rfl, rfl, by decide +kernel, rfl, by decide +kernel, by decide +kernel⟩
end Aw

namespace Aw
open PySem L2
/-! ### common to all rows -/
theorem len_sg1 (c : Nat) : (sg1 c).length = 1 := rfl
theorem len_app (a b : Str) : (a ++ b).length = a.length + b.length := by
  show (a.cps ++ b.cps).size = _
  rw [Array.size_append] <;> rfl
theorem big {n : Nat} (h : n ≤ 100000) : n ≤ sizeLine := Nat.le_trans h (by decide)
end Aw

namespace Aw
open PySem L2
section
variable {X : Cx} {x : Str} {pos : Pos}
theorem pe_gI {n : Int} (hm : ∃ t, X.mg x = some (.int n t)) (hg : Gl X x := by rfl) (hd : (x == ("__debug__" : Str)) = false := by decide) : PE X (.Name x pos) (tC (.int n)) := by
  obtain ⟨t, hm⟩ := hm
  exact pe_glob hg hm ⟨_, rfl⟩ hd
theorem pe_gS {z : Str} (hm : ∃ t, X.mg x = some (.str z t)) (hg : Gl X x := by rfl) (hd : (x == ("__debug__" : Str)) = false := by decide) : PE X (.Name x pos) (tC (.str z)) := by
  obtain ⟨t, hm⟩ := hm
  exact pe_glob hg hm ⟨_, rfl⟩ hd
end
end Aw

namespace Aw
open PySem L2
/-! ### is_name, by what it takes of the top -/
structure TxtI (mg : Str → Option Value) : Prop where
  len : mg "len" = none
  all : mg "all" = none
  gLet : ∃ t, mg "LETTERS" = some (.str "abcdefghijklmnopqrstuvwxyz" t)
  gLN : ∃ t, mg "LONGEST_NAME" = some (.int 6 t)
section
variable {P : Program} {w : World} {K : PySem.W.Frag} {mg : Str → Option Value} {base : Heap} {f : Addr} {fd : FuncData}
theorem ok_isname (F : Fun K "is_name" "is_name" s_is_name f fd) (T : TxtI mg) : FnOk P w K mg base CX0 1 f fd ["text"] spName := by
  refine F.ok sc_is_name (fun vs H Q E h => ?_) (fun cdv A outer s H vs Q E hr h => ?_)
  · obtain ⟨z, rfl, _⟩ := h
    rfl
  obtain ⟨z, rfl, hz, k⟩ := h
  refine ⟨_, pss_cons (ps_if (pt_not (pt_chain op_le op_le pe_int (pe_callB call_len_str (by rfl) T.len PySem.boot_len (pa_cons (pv 0) pa_nil)) (pe_gI T.gLN))) (pss_one (ps_ret pe_bl)) pss_nil)
    (pss_one (ps_ret (pe_callB (cr_all rfl) (by rfl) T.all (by decide +kernel) (pa_cons
      (pe_lc (own := [("sign", 1)]) (g := gName 1) rfl sc_is_name.nd (pi_str (pv 0)) (blkOk_by (N := ["text", "sign"]) (sc := defScope s_is_name) (by decide +kernel)) (fun _ _ _ _ _ => pg_name (i := 1) sc_is_name.nd rfl (Or.inl rfl)) (fun _ _ _ _ _ => pts_nil)
        (fun _ _ _ _ _ => pe_cmpR op_in_sign (pv 1) (pe_gS T.gLet) rfl)) pa_nil)))), ?_⟩
  refine ⟨_, rfl, _, rfl, big (by omega), _, _, rfl, rfl, _, rfl, ?_⟩
  by_cases c1 : (1 : Int) ≤ (z.length : Int)
  · rw [show decide ((1 : Int) ≤ (z.length : Int)) = true from decide_eq_true c1]
    refine iteT ⟨_, _, rfl, rfl, _, rfl, ?_⟩
    by_cases c2 : (z.length : Int) ≤ 6
    · rw [show decide ((z.length : Int) ≤ 6) = true from decide_eq_true c2]
      refine iteF ?_
      refine ⟨_, rfl, _, rfl, fun D hD => ?_⟩
      refine lc_it (walk_str (z := z)) (fun i H' => Same H H' ∧ H' D = some (.lst (((z.cps.toList.take i).map fun c => V.bl (decide (c ∈ LET)))))) ?_ (fun _ _ _ _ => trivial) ?_ ?_
      · exact ⟨same_new hD _, upd_same⟩
      · rintro i x H1 H2 hi ⟨s1, e1⟩ ⟨rfl, c, hc, rfl⟩
        have hc' : z.cps.toList[i]? = some c := by rw [Array.getElem?_toList]; exact hc
        have hi' : i < z.length := hi
        refine ⟨rfl, ?_⟩
        refine ⟨_, rfl, c, _, rfl, rfl, _, e1, ?_, ?_⟩
        · rw [List.length_map, List.length_take]
          exact small1000 (by omega)
        · refine ⟨same_upd s1 hD _, ?_⟩
          rw [upd_same, take_more hc', List.map_append]
          rfl
      · rintro H1 ⟨s1, e1⟩
        rw [List.take_of_length_le (by rw [Array.length_toList] <;> exact Nat.le_refl _)] at e1
        refine ⟨D, z.cps.toList.map fun c => decide (c ∈ LET), rfl, SqL.of (by rw [e1, List.map_map] <;> rfl), ?_⟩
        have e : nameM z = ((z.cps.toList.map fun c => decide (c ∈ LET)).all id) := by
          unfold nameM
          rw [decide_eq_true (show 1 ≤ z.length ∧ z.length ≤ 6 by omega), Bool.true_and, List.all_map]
          rfl
        rw [← e]
        exact k H1 s1
    · rw [show decide ((z.length : Int) ≤ 6) = false from decide_eq_false c2]
      refine iteT ?_
      have e : nameM z = false := by
        unfold nameM
        rw [decide_eq_false (show ¬ (1 ≤ z.length ∧ z.length ≤ 6) by omega), Bool.false_and]
      have q := k H (Same.refl H)
      rw [e] at q
      exact q
  · rw [show decide ((1 : Int) ≤ (z.length : Int)) = false from decide_eq_false c1]
    refine iteF ⟨_, rfl, ?_⟩
    refine iteT ?_
    have e : nameM z = false := by
      unfold nameM
      rw [decide_eq_false (show ¬ (1 ≤ z.length ∧ z.length ≤ 6) by omega), Bool.false_and]
    have q := k H (Same.refl H)
    rw [e] at q
    exact q
end
end Aw

namespace Aw
open PySem L2
/-! ### the hall: made, names put -/
structure TxtH (K : PySem.W.Frag) (mg : Str → Option Value) (C : HC) : Prop where
  cl : Cls K C.h
  nN : NoAttr K C.h "numbers"
  nR : NoAttr K C.h "recipes"
  nK : NoAttr K C.h "kept"
  nU : NoAttr K C.h "untaken"
  nP : NoAttr K C.h "points"
  len : mg "len" = none
  gGr : ∃ t, mg "GREATEST" = some (.int 30 t)
  gMN : ∃ t, mg "MOST_NAMES" = some (.int 10 t)
structure Exc1 (K : PySem.W.Frag) (mg : Str → Option Value) (nm : Str) (N : Addr) : Prop where
  x : PySem.W.excIn K N [.type "ValueError", .type "Exception", .type "BaseException", .type "object"] "ValueError.__new__" = true
  g : mg nm = some (.ref N)
  k : PySem.W.keepIn K (.ref N) = true
  b : PySem.W.subIn K (.ref N) (.type "BaseException") = some true
  t : PySem.W.typeIn K (.ref N) = some (.type "type")
def hl0 : Hl := ⟨[], [], [], [], []⟩
def roomy (h : Hl) (s : Str) : Prop := s ∈ akeys h.nums ∨ s ∈ akeys h.recs ∨ h.nums.length + h.recs.length < 10
def putH (h : Hl) (s : Str) (i : Int) : Hl := { h with nums := aput h.nums s i, recs := adel h.recs s }
def makeH (h : Hl) (s : Str) (t : T) : Hl := { h with recs := aput h.recs s t, nums := adel h.nums s }
def spHInit (C : HC) : Sp := fun vs H Q _ => ∃ (p dx : Addr), vs = [.ref p] ∧ H p = some (.ins C.h dx []) ∧ ∀ (A : HA) (H' : Hp), A.p = p → A.dx = dx → (∀ b, A.own b → b = p ∨ H b = none) → But p H H' → (∀ W : Addr → Prop, (∀ b, A.own b → W b) → HallAt C W H' A hl0) → Q .non H'
def spCheck (NN : Addr) : Sp := fun vs H Q E => ∃ z, vs = [.str z] ∧ z.length ≤ 1000 ∧ (nameM z = true → ∀ H', Same H H' → Q .non H') ∧ (nameM z = false → ∀ H', Same H H' → E (.ref NN) none H')
def spRoom (C : HC) (NF : Addr) : Sp := fun vs H Q E => ∃ (A : HA) (W : Addr → Prop) (h : Hl) (z : Str), vs = [.ref A.p, .str z] ∧ HallAt C W H A h ∧ (roomy h z → Q .non H) ∧ (¬ roomy h z → E (.ref NF) none H)
/-- what stays where a hall's wells and works are changed -/
def Stay2 (A : HA) (H H' : Hp) : Prop := ∀ b o, H b = some o → b ≠ A.n → b ≠ A.r → H' b = some o
def spPut (C : HC) (NN NB NF : Addr) : Sp := fun vs H Q E => ∃ (A : HA) (W : Addr → Prop) (h : Hl) (z : Str) (i : Int), vs = [.ref A.p, .str z, .int i] ∧ HallAt C W H A h ∧ z.length ≤ 1000 ∧ h.nums.length ≤ 1000 ∧
  (nameM z = false → ∀ H', Same H H' → E (.ref NN) none H') ∧ (nameM z = true → ¬ (0 ≤ i ∧ i ≤ 30) → ∀ H', Same H H' → E (.ref NB) none H') ∧ (nameM z = true → 0 ≤ i ∧ i ≤ 30 → ¬ roomy h z → ∀ H', Same H H' → E (.ref NF) none H') ∧
  (nameM z = true → 0 ≤ i ∧ i ≤ 30 → roomy h z → ∀ H', Stay2 A H H' → HallAt C W H' A (putH h z i) → Q .non H')
theorem adel_id {α : Type} {m : AL α} {s : Str} (h : s ∉ akeys m) : adel m s = m := by
  unfold adel
  exact List.filter_eq_self.mpr fun p hp => decide_eq_true fun e => h (by rw [← e]; exact List.mem_map_of_mem hp)
section
variable {P : Program} {w : World} {K : PySem.W.Frag} {mg : Str → Option Value} {base : Heap} {f : Addr} {fd : FuncData} {C : HC}
theorem ok_Hinit (F : Fun K "__init__" "Hall.__init__" s_Hall_init f fd) (T : TxtH K mg C) : FnOk P w K mg base CX0 1 f fd ["self"] (spHInit C) := by
  refine F.ok sc_Hall_init (fun vs H Q E h => ?_) (fun cdv A outer s H vs Q E hr h => ?_)
  · obtain ⟨p, dx, rfl, _⟩ := h
    rfl
  obtain ⟨p, dx, rfl, hp, q⟩ := h
  refine ⟨_, pss_cons (ps_fld (pv 0) pe_dnewK rfl) (pss_cons (ps_fld (pv 0) pe_dnewK rfl) (pss_cons (ps_fld (pv 0) pe_dnewK rfl) (pss_cons (ps_fld (pv 0) (pe_lst pa_nil) rfl) (pss_one (ps_fld (pv 0) (pe_lst pa_nil) rfl))))), ?_⟩
  refine fun n hn => ⟨_, rfl, p, C.h, dx, [], rfl, ?_, T.cl, T.nN, (by show 0 < 1000; decide), ?_⟩
  · rw [upd_ne (ne_of_none hp hn)]; exact hp
  have np : p ≠ n := ne_of_none hp hn
  obtain ⟨H1, h1⟩ : ∃ H1, H1 = upd (upd H n (.dK [])) p (.ins C.h dx (putF "numbers" (.ref n) [])) := ⟨_, rfl⟩
  rw [← h1]
  have p1 : H1 p = some (.ins C.h dx (putF "numbers" (.ref n) [])) := by rw [h1]; exact upd_same
  have n1 : H1 n = some (.dK []) := by rw [h1, upd_ne np.symm]; exact upd_same
  have b1 : But p H H1 := fun b o e hb => by rw [h1, upd_ne hb, upd_ne (ne_of_none e hn)]; exact e
  refine fun r hr' => ⟨_, rfl, p, C.h, dx, _, rfl, by rw [upd_ne (ne_of_none p1 hr')]; exact p1, T.cl, T.nR, (by show 1 < 1000; decide), ?_⟩
  have pr : p ≠ r := ne_of_none p1 hr'
  obtain ⟨H2, h2⟩ : ∃ H2, H2 = upd (upd H1 r (.dK [])) p (.ins C.h dx (putF "recipes" (.ref r) (putF "numbers" (.ref n) []))) := ⟨_, rfl⟩
  rw [← h2]
  have p2 : H2 p = some (.ins C.h dx (putF "recipes" (.ref r) (putF "numbers" (.ref n) []))) := by rw [h2]; exact upd_same
  have r2 : H2 r = some (.dK []) := by rw [h2, upd_ne pr.symm]; exact upd_same
  have b2 : But p H1 H2 := fun b o e hb => by rw [h2, upd_ne hb, upd_ne (ne_of_none e hr')]; exact e
  have n2 : H2 n = some (.dK []) := b2 _ _ n1 np.symm
  refine fun k hk => ⟨_, rfl, p, C.h, dx, _, rfl, by rw [upd_ne (ne_of_none p2 hk)]; exact p2, T.cl, T.nK, ?_, ?_⟩
  · have e0 : ∀ (k : Str) (v : V), putF k v [] = [(k, v)] := fun _ _ => rfl
    rw [e0, putF_neg s_nr, e0]; show 2 < 1000; decide
  have pk : p ≠ k := ne_of_none p2 hk
  obtain ⟨H3, h3⟩ : ∃ H3, H3 = upd (upd H2 k (.dK [])) p (.ins C.h dx (putF "kept" (.ref k) (putF "recipes" (.ref r) (putF "numbers" (.ref n) [])))) := ⟨_, rfl⟩
  rw [← h3]
  have p3 : H3 p = some (.ins C.h dx (putF "kept" (.ref k) (putF "recipes" (.ref r) (putF "numbers" (.ref n) [])))) := by rw [h3]; exact upd_same
  have k3 : H3 k = some (.dK []) := by rw [h3, upd_ne pk.symm]; exact upd_same
  have b3 : But p H2 H3 := fun b o e hb => by rw [h3, upd_ne hb, upd_ne (ne_of_none e hk)]; exact e
  have n3 := b3 _ _ n2 np.symm
  have r3 := b3 _ _ r2 pr.symm
  refine ⟨(by show 0 ≤ sizeLine; decide), fun u hu => ⟨_, rfl, p, C.h, dx, _, rfl, by rw [upd_ne (ne_of_none p3 hu)]; exact p3, T.cl, T.nU, ?_, ?_⟩⟩
  · have e0 : ∀ (k : Str) (v : V), putF k v [] = [(k, v)] := fun _ _ => rfl
    rw [e0, putF_neg s_nr, e0, putF_neg s_nk, putF_neg s_rk, e0]; show 3 < 1000; decide
  have pu : p ≠ u := ne_of_none p3 hu
  obtain ⟨H4, h4⟩ : ∃ H4, H4 = upd (upd H3 u (.lst [])) p (.ins C.h dx (putF "untaken" (.ref u) (putF "kept" (.ref k) (putF "recipes" (.ref r) (putF "numbers" (.ref n) []))))) := ⟨_, rfl⟩
  rw [← h4]
  have p4 : H4 p = some (.ins C.h dx (putF "untaken" (.ref u) (putF "kept" (.ref k) (putF "recipes" (.ref r) (putF "numbers" (.ref n) []))))) := by rw [h4]; exact upd_same
  have u4 : H4 u = some (.lst []) := by rw [h4, upd_ne pu.symm]; exact upd_same
  have b4 : But p H3 H4 := fun b o e hb => by rw [h4, upd_ne hb, upd_ne (ne_of_none e hu)]; exact e
  refine ⟨(by show 0 ≤ sizeLine; decide), fun t ht => ⟨_, rfl, p, C.h, dx, _, rfl, by rw [upd_ne (ne_of_none p4 ht)]; exact p4, T.cl, T.nP, ?_, ?_⟩⟩
  · have e0 : ∀ (k : Str) (v : V), putF k v [] = [(k, v)] := fun _ _ => rfl
    rw [e0, putF_neg s_nr, e0, putF_neg s_nk, putF_neg s_rk, e0, putF_neg s_nu, putF_neg s_ru, putF_neg s_ku, e0]; show 4 < 1000; decide
  have pt : p ≠ t := ne_of_none p4 ht
  obtain ⟨H5, h5⟩ : ∃ H5, H5 = upd (upd H4 t (.lst [])) p (.ins C.h dx (putF "points" (.ref t) (putF "untaken" (.ref u) (putF "kept" (.ref k) (putF "recipes" (.ref r) (putF "numbers" (.ref n) [])))))) := ⟨_, rfl⟩
  rw [← h5]
  have p5 : H5 p = some (.ins C.h dx (hallF ⟨p, dx, n, r, k, u, t⟩)) := by rw [h5, upd_same, hallF_new]; rfl
  have t5 : H5 t = some (.lst []) := by rw [h5, upd_ne pt.symm]; exact upd_same
  have b5 : But p H4 H5 := fun b o e hb => by rw [h5, upd_ne hb, upd_ne (ne_of_none e ht)]; exact e
  have hrH : H r = none := by
    cases e : H r with
    | none => rfl
    | some o => rw [b1 _ _ e pr.symm] at hr'; cases hr'
  have b12 := b1.trans b2
  have hkH : H k = none := by
    cases e : H k with
    | none => rfl
    | some o => rw [b12 _ _ e pk.symm] at hk; cases hk
  have b13 := b12.trans b3
  have huH : H u = none := by
    cases e : H u with
    | none => rfl
    | some o => rw [b13 _ _ e pu.symm] at hu; cases hu
  have b14 := b13.trans b4
  have htH : H t = none := by
    cases e : H t with
    | none => rfl
    | some o => rw [b14 _ _ e pt.symm] at ht; cases ht
  refine q ⟨p, dx, n, r, k, u, t⟩ H5 rfl rfl (fun b o => ?_) (b14.trans b5) fun W own => ⟨p5, ⟨[], b5 _ _ (b4 _ _ n3 np.symm) np.symm, .nil⟩, ⟨[], b5 _ _ (b4 _ _ r3 pr.symm) pr.symm, .nil⟩, ⟨[], b5 _ _ (b4 _ _ k3 pk.symm) pk.symm, .nil⟩, ⟨[], b5 _ _ u4 pu.symm, .nil⟩, ⟨[], t5, .nil⟩,
    ne_of_none n1 hr', ne_of_none n2 hk, ne_of_none r2 hk, ne_of_none u4 ht, own⟩
  rcases o with z | z | z | z | z | z
  · exact .inl z
  · rw [z]; exact .inr hn
  · rw [z]; exact .inr hrH
  · rw [z]; exact .inr hkH
  · rw [z]; exact .inr huH
  · rw [z]; exact .inr htH
theorem ok_check {NN g : Addr} {gd : FuncData} (F : Fun K "check_name" "check_name" s_check_name f fd) (X : Exc1 K mg "NoName" NN) (G : FnOk P w K mg base CX0 1 g gd ["text"] spName) (b : Binds K gd ["text"] []) (k : PySem.W.keepIn K (.ref g) = true) (m : mg "is_name" = some (.ref g)) :
    FnOk P w K mg base (L2.CX P w) 2 f fd ["text"] (spCheck NN) := by
  refine F.okX sc_check_name (fun vs H Q E h => ?_) (fun cdv A outer s H vs Q E hr h => ?_)
  · obtain ⟨z, rfl, _⟩ := h
    rfl
  obtain ⟨z, rfl, hz, q1, q2⟩ := h
  refine ⟨_, pss_one (ps_if (pt_not (pt_val (pe_call G hr rfl m k b .nil pass0 (pa_cons (pv 0) pa_nil)))) (pss_one (ps_raise (W := fun cls d _ H => E cls d H) rfl (takes_of rfl rfl rfl rfl) (pmk_own PySem.F.excBase_ValueError X.x X.g X.k (raises_own X.b X.t) rfl))) pss_nil), ?_⟩
  refine ⟨_, rfl, z, rfl, hz, fun H1 s1 => ⟨_, rfl, ?_⟩⟩
  cases e : nameM z with
  | true => exact iteF (q1 e H1 s1)
  | false => exact iteT (q2 e H1 s1)
theorem ok_room {NF : Addr} (F : Fun K "check_room" "Hall.check_room" s_Hall_check_room f fd) (T : TxtH K mg C) (X : Exc1 K mg "Full" NF) : FnOk P w K mg base (L2.CX P w) 1 f fd ["self", "name"] (spRoom C NF) := by
  refine F.okX sc_Hall_check_room (fun vs H Q E h => ?_) (fun cdv A outer s H vs Q E hr h => ?_)
  · obtain ⟨A, W, h, z, rfl, _⟩ := h
    rfl
  obtain ⟨A, W, h, z, rfl, a, q1, q2⟩ := h
  refine ⟨_, pss_cons (ps_if (PW.pt (pw_or (pt_cmp (pc_din (hu_of hr) (pv 1) (pe_fld (pv 0) rfl))) (pw_or1 (pt_cmp (pc_din (hu_of hr) (pv 1) (pe_fld (pv 0) rfl)))))) (pss_one ps_retN) pss_nil)
    (pss_one (ps_if (pt_cmpR op_ge (pe_op op_add (pe_callB call_lenD (by rfl) T.len PySem.boot_len (pa_cons (pe_fld (pv 0) rfl) pa_nil)) (pe_callB call_lenD (by rfl) T.len PySem.boot_len (pa_cons (pe_fld (pv 0) rfl) pa_nil))) (pe_gI T.gMN) (nomark _))
      (pss_one (ps_raise (W := fun cls d _ H => E cls d H) rfl (takes_of rfl rfl rfl rfl) (pmk_own PySem.F.excBase_ValueError X.x X.g X.k (raises_own X.b X.t) rfl))) pss_nil)), ?_⟩
  obtain ⟨kn, en, dn⟩ := a.n
  obtain ⟨kr, er, dr⟩ := a.r
  refine ⟨_, rfl, _, rfl, A.p, C.h, A.dx, _, _, rfl, a.ob, T.cl, T.nN, hallF_n A, A.n, _, rfl, DGet.k (k := Sum.inr z) en, _, rfl, ?_⟩
  rw [dn.isS]
  by_cases c1 : z ∈ akeys h.nums
  · rw [decide_eq_true c1]
    refine iteT ?_
    exact iteT (q1 (.inl c1))
  · rw [decide_eq_false c1]
    refine iteF ⟨_, rfl, _, rfl, A.p, C.h, A.dx, _, _, rfl, a.ob, T.cl, T.nR, hallF_r A, A.r, _, rfl, DGet.k (k := Sum.inr z) er, _, rfl, ?_⟩
    rw [dr.isS]
    by_cases c2 : z ∈ akeys h.recs
    · rw [decide_eq_true c2]
      exact iteT (q1 (.inr (.inl c2)))
    · rw [decide_eq_false c2]
      refine iteF ⟨_, rfl, A.p, C.h, A.dx, _, _, rfl, a.ob, T.cl, T.nN, hallF_n A, A.n, kn, rfl, en, _, rfl, A.p, C.h, A.dx, _, _, rfl, a.ob, T.cl, T.nR, hallF_r A, A.r, kr, rfl, er, _, _, rfl, rfl, _, _, rfl, rfl, _, rfl, ?_⟩
      rw [dn.len, dr.len]
      by_cases c3 : h.nums.length + h.recs.length < 10
      · rw [decide_eq_false (by omega)]
        exact iteF (q1 (.inr (.inr c3)))
      · rw [decide_eq_true (by omega)]
        exact iteT (q2 fun z => z.elim c1 fun z => z.elim c2 c3)
theorem ok_put {NN NB NF g1 g2 : Addr} {e1 e2 : FuncData} (F : Fun K "put" "Hall.put" s_Hall_put f fd) (T : TxtH K mg C) (X : Exc1 K mg "NoNumber" NB) (G1 : FnOk P w K mg base (L2.CX P w) 2 g1 e1 ["text"] (spCheck NN)) (b1 : Binds K e1 ["text"] []) (k1 : PySem.W.keepIn K (.ref g1) = true) (m1 : mg "check_name" = some (.ref g1))
    (G2 : FnOk P w K mg base (L2.CX P w) 1 g2 e2 ["self", "name"] (spRoom C NF)) (b2 : Binds K e2 ["self", "name"] []) (m2 : Meth K C.h "check_room" g2) : FnOk P w K mg base (L2.CX P w) 3 f fd ["self", "name", "number"] (spPut C NN NB NF) := by
  refine F.okX sc_Hall_put (fun vs H Q E h => ?_) (fun cdv A outer s H vs Q E hr h => ?_)
  · obtain ⟨A, W, h, z, i, rfl, _⟩ := h
    rfl
  obtain ⟨A, W, h, z, i, rfl, a, hz, hl, q1, q2, q3, q4⟩ := h
  have hr1 : Room 1 _ := hr.mono (by decide)
  refine ⟨_, pss_cons (ps_expr (pe_call (E := E) G1 hr rfl m1 k1 b1 .nil (passes_call (W := fun cls d _ H => E cls d H) (takes_of rfl rfl rfl rfl) (fun _ _ _ _ h => h)) (pa_cons (pv 1) pa_nil)))
    (pss_cons (ps_if (pt_not (pt_chain op_le op_le pe_int (pv 2) (pe_gI T.gGr))) (pss_one (ps_raise (W := fun cls d _ H => E cls d H) rfl (takes_of rfl rfl rfl rfl) (pmk_own PySem.F.excBase_ValueError X.x X.g X.k (raises_own X.b X.t) rfl))) pss_nil)
    (pss_cons (ps_expr (pe_meth (E := E) (pv 0) T.cl m2 G2 hr1 b2 .nil (passes_call (W := fun cls d _ H => E cls d H) (takes_of rfl rfl rfl rfl) (fun _ _ _ _ h => h)) (pa_cons (pv 1) pa_nil)))
    (pss_cons (ps_dput (hu_of hr) (pe_fld (pv 0) rfl) (pv 1) (pv 2) rfl)
    (pss_one (ps_if (pt_cmp (pc_din (hu_of hr) (pv 1) (pe_fld (pv 0) rfl))) (pss_one (ps_ddel (pe_fld (pv 0) rfl) (pv 1))) pss_nil))))), ?_⟩
  refine ⟨_, rfl, z, rfl, hz, fun e H1 s1 => ?_, q1⟩
  have a1 := a.same s1
  have done : 0 ≤ i ∧ i ≤ 30 → roomy h z → ∀ kn kr, H1 A.n = some (.dK kn) → DR IntV kn h.nums → H1 A.r = some (.dK kr) → DR (TA H1) kr h.recs → ∀ kr' H2, kr' = (if z ∈ akeys h.recs then dropK kr (Sum.inr z) else kr) → H2 A.n = some (.dK (putK kn (Sum.inr z) (.int i))) → H2 A.r = some (.dK kr') → Stay2 A H1 H2 → Q .non H2 := by
    intro hi hro kn kr en dn er dr kr' H2 ekr e2n e2r st
    have tup : Tups H1 H2 := fun b xs q => st b _ q (fun w => by rw [w, en] at q; cases q) (fun w => by rw [w, er] at q; cases q)
    have f2 : Fr W H1 H2 := fun b o q k => by
      by_cases c1 : b = A.n
      · obtain ⟨xs, z⟩ := k (a.own b (.inr (.inl c1)))
        rw [c1, en] at q; subst z; cases q
      · by_cases c2 : b = A.r
        · obtain ⟨xs, z⟩ := k (a.own b (.inr (.inr (.inl c2))))
          rw [c2, er] at q; subst z; cases q
        · exact st b o q c1 c2
    obtain ⟨kk, ek, dk⟩ := a1.k
    obtain ⟨vu, eu, lu⟩ := a1.u
    obtain ⟨vt, et, lt⟩ := a1.t
    refine q4 e hi hro H2 (fun b o q c1 c2 => st b o (s1 _ _ q) c1 c2) ⟨st _ _ a1.ob (ne_of a1.ob en (by intro w; cases w)) (ne_of a1.ob er (by intro w; cases w)), ⟨_, e2n, dn.put rfl⟩, ⟨kr', e2r, ?_⟩, ⟨kk, st _ _ ek a.nk.symm a.rk.symm, dk.imp fun _ _ _ z => z.fr f2⟩,
      ⟨vu, st _ _ eu (ne_of eu en (by intro w; cases w)) (ne_of eu er (by intro w; cases w)), lu.imp fun _ _ _ z => z.fr f2⟩, ⟨vt, st _ _ et (ne_of et en (by intro w; cases w)) (ne_of et er (by intro w; cases w)), lt.imp fun _ _ _ z => z.fr f2⟩, a.nr, a.nk, a.rk, a.ut, a.own⟩
    rw [ekr]
    show DR (TA H2) _ (adel h.recs z)
    split
    · exact dr.del.imp fun _ _ _ z => z.mono tup
    · next c => rw [adel_id c]; exact dr.imp fun _ _ _ z => z.mono tup
  refine ⟨_, rfl, _, _, rfl, rfl, _, rfl, ?_⟩
  have bad : ¬ (0 ≤ i ∧ i ≤ 30) → E (.ref NB) none H1 := fun c => q2 e c H1 s1
  by_cases c1 : (0 : Int) ≤ i
  · rw [show decide ((0 : Int) ≤ i) = true from decide_eq_true c1]
    refine iteT ⟨_, _, rfl, rfl, _, rfl, ?_⟩
    by_cases c2 : i ≤ 30
    · rw [show decide (i ≤ 30) = true from decide_eq_true c2]
      refine iteF ?_
      refine ⟨_, rfl, A.p, A.dx, _, rfl, a1.ob, hallF_no A (by decide +kernel) (by decide +kernel) (by decide +kernel) (by decide +kernel) (by decide +kernel), _, rfl, A, W, h, z, rfl, a1, fun ro => ?_, fun nr => q3 e ⟨c1, c2⟩ nr H1 s1⟩
      obtain ⟨kn, en, dn⟩ := a1.n
      obtain ⟨kr, er, dr⟩ := a1.r
      refine ⟨_, rfl, _, rfl, A.p, C.h, A.dx, _, _, rfl, a1.ob, T.cl, T.nN, hallF_n A, _, rfl, A.n, _, rfl, DPut.k (k := Sum.inr z) en (by rw [dn.len]; exact small1000 hl), ?_⟩
      have ob2 : (upd H1 A.n (.dK (putK kn (Sum.inr z) (.int i)))) A.p = some (.ins C.h A.dx (hallF A)) := by rw [upd_ne (ne_of a1.ob en (by intro w; cases w))]; exact a1.ob
      have er2 : (upd H1 A.n (.dK (putK kn (Sum.inr z) (.int i)))) A.r = some (.dK kr) := by rw [upd_ne a.nr.symm]; exact er
      refine ⟨_, rfl, _, rfl, A.p, C.h, A.dx, _, _, rfl, ob2, T.cl, T.nR, hallF_r A, A.r, _, rfl, DGet.k (k := Sum.inr z) er2, _, rfl, ?_⟩
      rw [dr.isS]
      by_cases c3 : z ∈ akeys h.recs
      · rw [decide_eq_true c3]
        obtain ⟨x, hx⟩ : ∃ x, alk h.recs z = some x := Option.ne_none_iff_exists'.mp fun w => alk_none.mp w c3
        obtain ⟨v, hv, _⟩ := dr.some hx
        refine iteT ⟨_, rfl, A.p, C.h, A.dx, _, _, rfl, ob2, T.cl, T.nR, hallF_r A, _, rfl, A.r, kr, Sum.inr z, rfl, er2, rfl, ?_, ?_⟩
        · rw [hv]; rfl
        · refine done ⟨c1, c2⟩ ro kn kr en dn er dr _ _ rfl ?_ ?_ ?_
          · rw [upd_ne a.nr]; exact upd_same
          · rw [if_pos c3]; exact upd_same
          · intro b o q n1 n2
            rw [upd_ne n2, upd_ne n1]
            exact q
      · rw [decide_eq_false c3]
        refine iteF ?_
        refine done ⟨c1, c2⟩ ro kn kr en dn er dr _ _ rfl upd_same ?_ ?_
        · rw [if_neg c3]; exact er2
        · intro b o q n1 n2
          rw [upd_ne n1]
          exact q
    · rw [show decide (i ≤ 30) = false from decide_eq_false c2]
      exact iteT (bad fun z => c2 z.2)
  · rw [show decide ((0 : Int) ≤ i) = false from decide_eq_false c1]
    refine iteF ⟨_, rfl, ?_⟩
    exact iteT (bad fun z => c1 z.1)
end
end Aw

namespace Aw
open PySem L2
/-! ### the hall: told, asked where nothing is run -/
def spWellsH (C : HC) : Sp := fun vs H Q _ => ∃ (A : HA) (W : Addr → Prop) (h : Hl), vs = [.ref A.p] ∧ HallAt C W H A h ∧ h.nums.length ≤ 60 ∧ (akeys h.nums).Nodup ∧
  ∀ (p : Addr) (ys : List Str) (H' : Hp), Same H H' → H p = none → ys.Perm (akeys h.nums) → ys.Pairwise sle → H' p = some (.dK (ys.map fun s => ((Sum.inr s : Key), V.int (numOf h.nums s)))) → Q (.ref p) H'
def spAskW (C : HC) (NN : Addr) : Sp := fun vs H Q E => ∃ (A : HA) (W : Addr → Prop) (h : Hl) (z : Str), vs = [.ref A.p, .str z] ∧ HallAt C W H A h ∧ z.length ≤ 1000 ∧ z ∉ akeys h.recs ∧
  (nameM z = false → ∀ H', Same H H' → E (.ref NN) none H') ∧ (nameM z = true → ∀ H', Same H H' → Q (.int (numOf h.nums z)) H')
theorem val_map {g : Str → V} {l : List Str} {s : Str} (h : s ∉ l) : valV (l.map fun z => ((Sum.inr z : Key), g z)) (Sum.inr s) = none := by
  induction l with
  | nil => rfl
  | cons a r ih =>
    rw [List.map_cons, valV_neg (fun z => h (by rw [← Sum.inr.inj z]; exact List.mem_cons_self))]
    exact ih fun z => h (List.mem_cons_of_mem _ z)
theorem not_in_take {ws : List Str} (nd : ws.Nodup) {i : Nat} {s : Str} (hi : ws[i]? = some s) : s ∉ ws.take i := fun h => by
  obtain ⟨j, hj, e⟩ := List.mem_take_iff_getElem.mp h
  have hlt := (List.getElem?_eq_some_iff.mp hi).1
  have e2 := (List.getElem?_eq_some_iff.mp hi).2
  have := (List.getElem_inj (h₀ := by omega) (h₁ := hlt) nd).mp (e.trans e2.symm)
  omega
theorem mk_str {l : List Str} {i : Nat} {x : V} (hi : (l.map V.str)[i]? = some x) : ∃ z, l[i]? = some z ∧ x = V.str z := by
  rw [List.getElem?_map] at hi
  cases ez : l[i]? with
  | none => rw [ez] at hi; cases hi
  | some z => rw [ez] at hi; exact ⟨z, rfl, (Option.some.inj hi).symm⟩
theorem num_of {kvs : List (Key × V)} {m : AL Int} (d : DR IntV kvs m) (s : Str) : (valV kvs (Sum.inr s)).getD (.int 0) = .int (numOf m s) := by
  unfold numOf
  rcases d.val s with ⟨a, b⟩ | ⟨v, x, a, b, c⟩
  · rw [a, b]; rfl
  · rw [a, b]; exact c
theorem num_in {kvs : List (Key × V)} {m : AL Int} (d : DR IntV kvs m) {s : Str} (h : s ∈ akeys m) : valV kvs (Sum.inr s) = some (.int (numOf m s)) := by
  obtain ⟨x, hx⟩ : ∃ x, alk m s = some x := Option.ne_none_iff_exists'.mp fun w => alk_none.mp w h
  obtain ⟨v, hv, c⟩ := d.some hx
  unfold numOf
  rw [hv, hx, c]
  rfl
/-- a run as it is told, all of it new -/
def RowN (H0 H : Hp) (v : V) (r : Rn) : Prop := ∃ t l ts, v = .ref t ∧ H0 t = none ∧ H0 l = none ∧ H t = some (.tup [.str r.nm, .ref l, .int r.an]) ∧ H l = some (.lst ts) ∧ LR (PairAt H) ts r.rd
theorem RowN.same {H0 H H' : Hp} {v : V} {r : Rn} (h : RowN H0 H v r) (s : Same H H') : RowN H0 H' v r := by
  obtain ⟨t, l, ts, e, n1, n2, q, q1, d⟩ := h
  exact ⟨t, l, ts, e, n1, n2, s _ _ q, s _ _ q1, d.imp fun _ _ _ z => z.fr (Fr.of_same (W := fun _ => False) s)⟩
theorem RowN.keep {H0 H H' : Hp} {v : V} {r : Rn} {p : Addr} (h : RowN H0 H v r) (s : But p H H') (np : ∃ o, H0 p = some o) (nt : ∀ xs, H p ≠ some (.tup xs)) : RowN H0 H' v r := by
  obtain ⟨t, l, ts, e, n1, n2, q, q1, d⟩ := h
  obtain ⟨o, np⟩ := np
  have tp : Tups H H' := Tups.of_but s nt
  exact ⟨t, l, ts, e, n1, n2, s _ _ q (ne_of_none np n1).symm, s _ _ q1 (ne_of_none np n2).symm, d.imp fun _ _ _ ⟨a, x, y⟩ => ⟨a, x, tp _ _ y⟩⟩
structure TxtR (K : PySem.W.Frag) (C : HC) : Prop where
  cl : Cls K C.r
  nN : NoAttr K C.r "name"
  nR : NoAttr K C.r "reads"
  nA : NoAttr K C.r "answer"
theorem s_na : ¬ (("name" : Str) = "answer") := by decide +kernel
theorem s_ra : ¬ (("reads" : Str) = "answer") := by decide +kernel
theorem s_nre : ¬ (("name" : Str) = "reads") := by decide +kernel
theorem runF_n (nm : Str) (t : Addr) (an : Int) : (runF nm t an).lookup ("name" : Str) = some (.str nm) := lku_pos
theorem runF_r (nm : Str) (t : Addr) (an : Int) : (runF nm t an).lookup ("reads" : Str) = some (.ref t) := (lku_neg (Ne.symm s_nre)).trans lku_pos
theorem runF_a (nm : Str) (t : Addr) (an : Int) : (runF nm t an).lookup ("answer" : Str) = some (.int an) := (lku_neg (Ne.symm s_na)).trans ((lku_neg (Ne.symm s_ra)).trans lku_pos)
abbrev rLo (K : PySem.W.Frag) : List V → Hp → VK → Prop := fun xs H Q => ∃ p ys, xs = [.ref p] ∧ (SqL K H p ys ∨ SqT K H p ys) ∧ ∀ l, H l = none → Q (.ref l) (upd H l (.lst ys))
def spRunsH (C : HC) : Sp := fun vs H Q _ => ∃ (A : HA) (W : Addr → Prop) (h : Hl), vs = [.ref A.p] ∧ HallAt C W H A h ∧ h.unt.length < sizeLine ∧
  ∀ (p u : Addr) (ws : List V) (H' : Hp), H p = none → H u = none → p ≠ u → But A.p H H' → H' p = some (.lst ws) → LR (RowN H H') ws h.unt → (∀ W' : Addr → Prop, Nw W W' H → (∀ b, ({ A with u := u } : HA).own b → W' b) → HallAt C W' H' { A with u := u } { h with unt := [] }) → Q (.ref p) H'
section
variable {P : Program} {w : World} {K : PySem.W.Frag} {mg : Str → Option Value} {base : Heap} {f : Addr} {fd : FuncData} {C : HC}
theorem ok_wells (F : Fun K "wells" "Hall.wells" s_Hall_wells f fd) (T : TxtH K mg C) (zs : mg "sorted" = none) : FnOk P w K mg base CX0 1 f fd ["self"] (spWellsH C) := by
  refine F.ok sc_Hall_wells (fun vs H Q E h => ?_) (fun cdv A outer s H vs Q E hr h => ?_)
  · obtain ⟨A, W, h, rfl, _⟩ := h
    rfl
  obtain ⟨A, W, h, rfl, a, hl, hnd, q⟩ := h
  have nd := sc_Hall_wells.nd
  refine ⟨_, pss_one (ps_ret (pe_dc (own := [("name", 1)]) (g := gName 1) (tv := tDGet (tFld K (tVar 0) "numbers") (tVar 1)) rfl nd (pi_list (pe_callB (call_sortedD rfl) (by rfl) zs (by decide +kernel) (pa_cons (pe_fld (pv 0) rfl) pa_nil))) (blkOk_by (N := ["self", "name"]) (sc := defScope s_Hall_wells) (by decide +kernel))
      (fun _ _ _ _ _ => pg_name (i := 1) nd rfl (.inl rfl)) (fun _ _ _ _ _ => pts_nil) (fun _ _ _ _ _ => pv 1) (fun _ _ _ _ _ => pe_dget (hu_of hr) (pe_fld (pv 0) rfl) (pv 1) (fun _ _ => rfl)))), ?_⟩
  obtain ⟨kn, en, dn⟩ := a.n
  refine ⟨_, rfl, A.p, C.h, A.dx, _, _, rfl, a.ob, T.cl, T.nN, hallF_n A, A.n, kn, akeys h.nums, rfl, .inl en, dn.keys, by unfold akeys; rw [List.length_map]; omega, fun ys l hp hs hnl => ?_⟩
  have s1 := same_new hnl (.lst (ys.map V.str))
  have ynd : ys.Nodup := hp.nodup_iff.mpr hnd
  have yl := hp.length_eq
  unfold akeys at yl
  rw [List.length_map] at yl
  refine ⟨l, rfl, ⟨_, SqL.of upd_same⟩, fun D hD => ?_⟩
  have nlD : l ≠ D := ne_of_none upd_same hD
  have hDH := s1.free hD
  refine walk_gen (walk_list (K := K) (a := l) (xs := ys.map V.str)) (fun i H' => Same H H' ∧ H' l = some (.lst (ys.map V.str)) ∧ H' D = some (.dK ((ys.take i).map fun s => ((Sum.inr s : Key), V.int (numOf h.nums s)))))
    ⟨s1.trans (same_new hD _), by rw [upd_ne nlD]; exact upd_same, upd_same⟩ (fun i H' _ h => SqL.of h.2.1) ?_ ?_
  · rintro i x HA HB hi ⟨sA, el, eD⟩ ⟨rfl, hx⟩
    obtain ⟨z, hz, rfl⟩ := mk_str hx
    have aB := a.same sA
    have hzk : z ∈ akeys h.nums := hp.mem_iff.mp (List.mem_of_getElem? hz)
    refine ⟨rfl, ?_⟩
    refine ⟨_, rfl, _, rfl, A.p, C.h, A.dx, _, _, rfl, aB.ob, T.cl, T.nN, hallF_n A, _, rfl, A.n, .int (numOf h.nums z), rfl, by rw [← num_in dn hzk]; exact DGet.k (k := Sum.inr z) (sA _ _ en), ?_⟩
    refine ⟨_, Sum.inr z, rfl, eD, ?_, same_upd sA hDH _, by rw [upd_ne nlD]; exact el, ?_⟩
    · rw [List.length_map, List.length_take]; exact small1000 (by omega)
    · rw [upd_same, putK_new _ (val_map (g := fun s => V.int (numOf h.nums s)) (not_in_take ynd hz)), take_more hz, List.map_append]
      rfl
  · rintro HA ⟨sA, el, eD⟩
    rw [List.length_map, List.take_length] at eD
    exact q D ys HA sA hDH hp (sorted_pair hs) eD
theorem ok_askw {NN g1 : Addr} {e1 : FuncData} (F : Fun K "ask" "Hall.ask" s_Hall_ask f fd) (T : TxtH K mg C) (G1 : FnOk P w K mg base (L2.CX P w) 2 g1 e1 ["text"] (spCheck NN)) (b1 : Binds K e1 ["text"] []) (k1 : PySem.W.keepIn K (.ref g1) = true) (m1 : mg "check_name" = some (.ref g1)) :
    FnOk P w K mg base (L2.CX P w) 3 f fd ["self", "name"] (spAskW C NN) := by
  refine F.okX sc_Hall_ask (fun vs H Q E h => ?_) (fun cdv A outer s H vs Q E hr h => ?_)
  · obtain ⟨A, W, h, z, rfl, _⟩ := h
    rfl
  obtain ⟨A, W, h, z, rfl, a, hz, hnr, q1, q2⟩ := h
  refine ⟨_, pss_cons (ps_expr (pe_call (E := E) G1 hr rfl m1 k1 b1 .nil (passes_call (W := fun cls d _ H => E cls d H) (takes_of rfl rfl rfl rfl) (fun _ _ _ _ h => h)) (pa_cons (pv 1) pa_nil)))
    (pss_cons (ps_if (pt_cmp (pc_dnotin (hu_of hr) (pv 1) (pe_fld (pv 0) rfl))) (pss_one (ps_ret (pe_dget2 (hu_of hr) (pe_fld (pv 0) rfl) (pv 1) pe_int ⟨rfl, rfl, rfl, rfl⟩))) pss_nil)
    (pss_cons ps_never (pss_cons ps_never (pss_cons ps_never (pss_one ps_never))))), ?_⟩
  refine ⟨_, rfl, z, rfl, hz, fun e H1 s1 => ?_, q1⟩
  have a1 := a.same s1
  obtain ⟨kn, en, dn⟩ := a1.n
  obtain ⟨kr, er, dr⟩ := a1.r
  refine ⟨_, rfl, _, rfl, A.p, C.h, A.dx, _, _, rfl, a1.ob, T.cl, T.nR, hallF_r A, A.r, _, rfl, DGet.k (k := Sum.inr z) er, _, rfl, ?_⟩
  rw [dr.isS, decide_eq_false hnr]
  refine iteT ⟨_, rfl, A.p, C.h, A.dx, _, _, rfl, a1.ob, T.cl, T.nN, hallF_n A, A.n, rfl, .inl ⟨_, .inl en⟩, _, rfl, _, DGet.k (k := Sum.inr z) en, ?_⟩
  rw [num_of dn]
  exact q2 e H1 s1
theorem ok_runs (F : Fun K "runs" "Hall.runs" s_Hall_runs f fd) (T : TxtH K mg C) (TR : TxtR K C) (zl : mg "list" = none) : FnOk P w K mg base CX0 1 f fd ["self"] (spRunsH C) := by
  refine F.ok sc_Hall_runs (fun vs H Q E h => ?_) (fun cdv A outer s H vs Q E hr h => ?_)
  · obtain ⟨A, W, h, rfl, _⟩ := h
    rfl
  obtain ⟨A, W, h, rfl, a, hl, q⟩ := h
  have nd := sc_Hall_runs.nd
  refine ⟨_, pss_cons (ps_setLc (i := 1) (own := [("run", 2)]) (g := gName 2) (te := tTup (tCons (tFld K (tVar 2) "name") (tCons (tCB (rLo K) (tCons (tFld K (tVar 2) "reads") tNil)) (tCons (tFld K (tVar 2) "answer") tNil)))) rfl nd rfl rfl (sw_true rfl rfl rfl (by decide +kernel)) (pi_list (pe_fld (pv 0) rfl)) (blkOk_by (N := ["self", "told", "run"]) (sc := defScope s_Hall_runs) (by decide +kernel))
      (fun _ _ _ _ _ => pg_name (i := 2) nd rfl (.inl rfl)) (fun _ _ _ _ _ => pts_nil) (fun _ _ _ _ _ => pe_tup (pa_cons (pe_fld (pv 2) rfl) (pa_cons (pe_callTy call_list_of (by rfl) zl (by decide +kernel) (pa_cons (pe_fld (pv 2) rfl) pa_nil)) (pa_cons (pe_fld (pv 2) rfl) pa_nil)))))
    (pss_cons (ps_fld (pv 0) (pe_lst pa_nil) rfl) (pss_one (ps_ret (pv 1)))), ?_⟩
  obtain ⟨vu, eu, lu⟩ := a.u
  refine ⟨_, rfl, A.p, C.h, A.dx, _, _, rfl, a.ob, T.cl, T.nU, hallF_u A, A.u, rfl, ⟨_, SqL.of eu⟩, fun D hD => ?_⟩
  refine lc_list (K := K) (a := A.u) (xs := vu) (fun i H' => Same H H' ∧ ∃ ws, H' D = some (.lst ws) ∧ LR (RowN (upd H D (.lst [])) H') ws (h.unt.take i)) ⟨same_new hD _, [], upd_same, .nil⟩ (fun i H' _ h => SqL.of (h.1 _ _ eu)) ?_ ?_
  · rintro i x H1 hi ⟨s1, ws, eD, lr⟩
    obtain ⟨r, hr', ra⟩ := lu.get hi
    have ra1 := ra.fr (Fr.of_same s1)
    obtain ⟨ad, dx, t, ts, rfl, nw, ob, et, lt⟩ := ra1
    have hiu : i < h.unt.length := (List.getElem?_eq_some_iff.mp hr').1
    refine ⟨rfl, ?_⟩
    refine ⟨_, rfl, ad, C.r, dx, _, _, rfl, ob, TR.cl, TR.nN, runF_n _ _ _, ?_⟩
    refine ⟨_, rfl, ad, C.r, dx, _, _, rfl, ob, TR.cl, TR.nR, runF_r _ _ _, t, ts, rfl, .inr (SqT.of et), fun l hl' => ?_⟩
    have s2 := same_new hl' (.lst ts)
    refine ⟨_, rfl, ad, C.r, dx, _, _, rfl, s2 _ _ ob, TR.cl, TR.nA, runF_a _ _ _, (by show 3 ≤ sizeLine; decide), fun tp htp => ?_⟩
    have s3 := same_new htp (.tup [.str r.nm, .ref l, .int r.an])
    have s23 := s2.trans s3
    refine ⟨ws, s23 _ _ eD, ?_, ?_⟩
    · have := lr.len
      rw [List.length_take] at this
      omega
    have nDl : D ≠ l := ne_of_none eD hl'
    have nDt : D ≠ tp := ne_of_none (s2 _ _ eD) htp
    have lH : (upd H D (.lst [])) l = none := by rw [upd_ne nDl.symm]; exact s1.free hl'
    have tH : (upd H D (.lst [])) tp = none := by rw [upd_ne nDt.symm]; exact (s1.trans s2).free htp
    refine ⟨same_upd (s1.trans s23) hD _, _, upd_same, ?_⟩
    have kp : ∀ b o, H1 b = some o → b ≠ D → (upd (upd (upd H1 l (.lst ts)) tp (.tup [.str r.nm, .ref l, .int r.an])) D (.lst (ws ++ [.ref tp]))) b = some o := fun b o e n => by rw [upd_ne n]; exact s23 _ _ e
    have tpk : Tups H1 (upd (upd (upd H1 l (.lst ts)) tp (.tup [.str r.nm, .ref l, .int r.an])) D (.lst (ws ++ [.ref tp]))) := fun b xs e => kp b _ e (ne_of e eD (by intro z; cases z))
    rw [take_more hr']
    refine LR.snoc (lr.imp fun r0 _ v0 z => ?_) ⟨tp, l, ts, rfl, tH, lH, by rw [upd_ne nDt.symm]; exact upd_same, by rw [upd_ne nDl.symm]; exact s3 _ _ upd_same, lt.imp fun _ _ _ ⟨b, x, y⟩ => ⟨b, x, tpk _ _ y⟩⟩
    obtain ⟨t0, l0, ts0, e0, n1, n2, q1, q2, d0⟩ := z
    exact ⟨t0, l0, ts0, e0, n1, n2, tpk _ _ q1, kp _ _ q2 (fun w => by rw [w, upd_same] at n2; cases n2), d0.imp fun _ _ _ ⟨b, x, y⟩ => ⟨b, x, tpk _ _ y⟩⟩
  · rintro H1 ⟨s1, ws, eD, lr⟩
    rw [lu.len, List.take_length] at lr
    refine ⟨(by show 0 ≤ sizeLine; decide), fun u hu => ?_⟩
    have a1 := a.same s1
    have s2 := same_new hu (.lst [])
    have ob2 := s2 _ _ a1.ob
    refine ⟨_, rfl, A.p, C.h, A.dx, _, rfl, ob2, T.cl, T.nU, (by show 5 < 1000; decide), _, rfl, ?_⟩
    rw [hallF_putu]
    have nDu : D ≠ u := ne_of_none eD hu
    have npu : A.p ≠ u := ne_of_none a1.ob hu
    have npD : A.p ≠ D := ne_of_none a.ob hD
    have b1 : But A.p H1 (upd (upd H1 u (.lst [])) A.p (.ins C.h A.dx (hallF { A with u := u }))) := fun b o e n => by rw [upd_ne n]; exact s2 _ _ e
    have bH : But A.p H (upd (upd H1 u (.lst [])) A.p (.ins C.h A.dx (hallF { A with u := u }))) := fun b o e n => b1 b o (s1 _ _ e) n
    have tups : Tups H1 (upd (upd H1 u (.lst [])) A.p (.ins C.h A.dx (hallF { A with u := u }))) := fun b xs e => b1 b _ e (ne_of e a1.ob (by intro z; cases z))
    refine q D u ws _ hD (s1.free hu) nDu bH (b1 _ _ eD npD.symm) (lr.imp fun r _ v z => ?_) fun W' nw own => ?_
    · obtain ⟨t0, l0, ts0, e0, n1, n2, q1, q2, d0⟩ := z
      have z1 : H t0 = none := (same_new hD (.lst [])).free n1
      have z2 : H l0 = none := (same_new hD (.lst [])).free n2
      exact ⟨t0, l0, ts0, e0, z1, z2, tups _ _ q1, b1 _ _ q2 (ne_of_none a.ob z2).symm, d0.imp fun _ _ _ ⟨b, x, y⟩ => ⟨b, x, tups _ _ y⟩⟩
    · have fr : Fr W H (upd (upd H1 u (.lst [])) A.p (.ins C.h A.dx (hallF { A with u := u }))) := fun b o e k => bH b o e fun w => by
        obtain ⟨xs, z⟩ := k (a.own b (.inl w))
        rw [w, a.ob] at e; subst z; cases e
      obtain ⟨kn, en, dn⟩ := a.n
      obtain ⟨kr, er, dr⟩ := a.r
      obtain ⟨kk, ek, dk⟩ := a.k
      obtain ⟨vt, et, lt⟩ := a.t
      have fw : ∀ {b : Addr} {o : HO}, H b = some o → b ≠ A.p → (upd (upd H1 u (.lst [])) A.p (.ins C.h A.dx (hallF { A with u := u }))) b = some o := fun e n => bH _ _ e n
      refine ⟨upd_same, ⟨kn, fw en (ne_of en a.ob (by intro z; cases z)), dn⟩, ⟨kr, fw er (ne_of er a.ob (by intro z; cases z)), dr.imp fun _ _ _ z => z.mono fr.tups⟩, ⟨kk, fw ek (ne_of ek a.ob (by intro z; cases z)), dk.imp fun _ _ _ z => (z.nw nw).fr ?_⟩, ⟨[], by rw [upd_ne npu.symm]; exact upd_same, .nil⟩,
        ⟨vt, fw et (ne_of et a.ob (by intro z; cases z)), lt.imp fun _ _ _ z => (z.nw nw).fr ?_⟩, a.nr, a.nk, a.rk, (fun w => by have := s1.free hu; rw [show u = A.t from w, et] at this; cases this), own⟩
      · intro b o e k
        refine bH b o e fun w => ?_
        obtain ⟨xs, z⟩ := k (own b (.inl w))
        rw [w, a.ob] at e; subst z; cases e
      · intro b o e k
        refine bH b o e fun w => ?_
        obtain ⟨xs, z⟩ := k (own b (.inl w))
        rw [w, a.ob] at e; subst z; cases e
end
end Aw

namespace Aw
open PySem L2
/-! ### the hall without works: works, rings -/
theorem pe_never {X : Cx} {e : Expr} : PE X e (fun _ _ _ => False) := ⟨fun _ _ _ _ _ _ h => h.elim⟩
def spWorks0 (C : HC) : Sp := fun vs H Q _ => ∃ (A : HA) (W : Addr → Prop) (h : Hl), vs = [.ref A.p] ∧ HallAt C W H A h ∧ h.recs = [] ∧ ∀ (p : Addr) (H' : Hp), Same H H' → H p = none → H' p = some (.dK []) → Q (.ref p) H'
def spRings0 (C : HC) : Sp := fun vs H Q _ => ∃ (A : HA) (W : Addr → Prop) (h : Hl), vs = [.ref A.p] ∧ HallAt C W H A h ∧ h.kept = [] ∧ ∀ (p : Addr) (H' : Hp), Same H H' → H p = none → H' p = some (.lst []) → Q (.ref p) H'
section
variable {P : Program} {w : World} {K : PySem.W.Frag} {mg : Str → Option Value} {base : Heap} {f : Addr} {fd : FuncData} {C : HC}
theorem ok_works0 (F : Fun K "works" "Hall.works" s_Hall_works f fd) (T : TxtH K mg C) (zs : mg "sorted" = none) : FnOk P w K mg base CX0 1 f fd ["self"] (spWorks0 C) := by
  refine F.ok sc_Hall_works (fun vs H Q E h => ?_) (fun cdv A outer s H vs Q E hr h => ?_)
  · obtain ⟨A, W, h, rfl, _⟩ := h
    rfl
  obtain ⟨A, W, h, rfl, a, h0, q⟩ := h
  have nd := sc_Hall_works.nd
  refine ⟨_, pss_one (ps_ret (pe_dc (own := [("name", 1)]) (g := gName 1) rfl nd (pi_list (pe_callB (call_sortedD rfl) (by rfl) zs (by decide +kernel) (pa_cons (pe_fld (pv 0) rfl) pa_nil))) (blkOk_by (N := ["self", "name"]) (sc := defScope s_Hall_works) (by decide +kernel))
      (fun _ _ _ _ _ => pg_name (i := 1) nd rfl (.inl rfl)) (fun _ _ _ _ _ => pts_nil) (fun _ _ _ _ _ => pv 1) (fun _ _ _ _ _ => pe_never))), ?_⟩
  obtain ⟨kr, er, dr⟩ := a.r
  rw [h0] at dr
  refine ⟨_, rfl, A.p, C.h, A.dx, _, _, rfl, a.ob, T.cl, T.nR, hallF_r A, A.r, kr, [], rfl, .inl er, dr.keys, by decide, fun ys l hp hs hnl => ?_⟩
  have e0 : ys = [] := List.Perm.eq_nil hp
  subst e0
  refine ⟨l, rfl, ⟨_, SqL.of upd_same⟩, fun D hD => ?_⟩
  have nlD : l ≠ D := ne_of_none upd_same hD
  have s1 := same_new hnl (.lst (([] : List Str).map V.str))
  refine walk_gen (walk_list (K := K) (a := l) (xs := ([] : List Str).map V.str)) (fun i H' => Same H H' ∧ H' l = some (.lst (([] : List Str).map V.str)) ∧ H' D = some (.dK []))
    ⟨s1.trans (same_new hD _), by rw [upd_ne nlD]; exact upd_same, upd_same⟩ (fun i H' _ h => SqL.of h.2.1) ?_ ?_
  · intro i x HA HB hi
    exact absurd hi (Nat.not_lt_zero i)
  · rintro HA ⟨sA, el, eD⟩
    exact q D HA sA (s1.free hD) eD
theorem ok_rings0 (F : Fun K "rings" "Hall.rings" s_Hall_rings f fd) (T : TxtH K mg C) (zs : mg "sorted" = none) : FnOk P w K mg base CX0 1 f fd ["self"] (spRings0 C) := by
  refine F.ok sc_Hall_rings (fun vs H Q E h => ?_) (fun cdv A outer s H vs Q E hr h => ?_)
  · obtain ⟨A, W, h, rfl, _⟩ := h
    rfl
  obtain ⟨A, W, h, rfl, a, h0, q⟩ := h
  have nd := sc_Hall_rings.nd
  refine ⟨_, pss_cons (ps_set (i := 1) nd rfl (.inl rfl) (pe_lst pa_nil))
    (pss_cons (ps_lock (ps_for PassesOwn.never rfl (pi_items (pe_fld (pv 0) rfl)) (pg_tup (by rfl) (pgs_cons (pg_name (i := 2) nd rfl (.inl rfl)) (pgs_cons (pg_name (i := 3) nd rfl (.inl rfl)) pgs_nil))) (pss_cons ps_never (pss_one ps_never))))
    (pss_one (ps_ret (pe_callB cr_sortedS (by rfl) zs (by decide +kernel) (pa_cons (pv 1) pa_nil))))), ?_⟩
  obtain ⟨kk, ek, dk⟩ := a.k
  rw [h0] at dk
  have ekk : kk = [] := by cases dk; rfl
  subst ekk
  refine ⟨(by show 0 ≤ sizeLine; decide), fun l hl => ?_⟩
  have s1 := same_new hl (.lst [])
  have nkl : A.k ≠ l := ne_of_none ek hl
  refine ⟨A.k, .dK [], s1 _ _ ek, True.intro, fun od => ?_⟩
  have ob1 : (upd (upd H l (.lst [])) A.k (.frz od (.dK []))) A.p = some (.ins C.h A.dx (hallF A)) := by rw [upd_ne (ne_of a.ob ek (by intro w; cases w))]; exact s1 _ _ a.ob
  refine ⟨_, rfl, A.p, C.h, A.dx, _, _, rfl, ob1, T.cl, T.nK, hallF_k A, A.k, od, [], rfl, upd_same, for_it walk_items (fun i σ H' => σ = [some (.ref A.p), some (.ref l), none, none, none] ∧ H' = upd (upd H l (.lst [])) A.k (.frz od (.dK []))) ⟨rfl, rfl⟩ (fun i σ H' _ ⟨_, e⟩ => by rw [e]; exact upd_same) ?_ ?_⟩
  · intro i x σ HA HB hi
    exact absurd hi (Nat.not_lt_zero i)
  · rintro σ HA ⟨rfl, rfl⟩
    refine ⟨upd_same, ?_⟩
    have eH : upd (upd (upd H l (.lst [])) A.k (.frz od (.dK []))) A.k (.dK []) = upd H l (.lst []) := by
      funext b
      by_cases c : b = A.k
      · subst c; rw [upd_same, upd_ne nkl]; exact ek.symm
      · rw [upd_ne c, upd_ne c]
    rw [eH]
    refine ⟨_, rfl, l, [], rfl, SqL.of upd_same, by decide, fun ys p hp hs hnp => ?_⟩
    have e0 : ys = [] := List.Perm.eq_nil hp
    subst e0
    exact q p _ (s1.trans (same_new hnp _)) (s1.free hnp) upd_same
end
end Aw

namespace Aw
open PySem L2
def spLaw (K : PySem.W.Frag) : Sp := fun vs H Q _ => ∃ (a : Addr) (ns : List Int), vs = [.ref a] ∧ SqL K H a (ns.map V.int) ∧ ns.length ≤ 63 ∧ ∀ H', Q (.bl true) H'
/-- a def of the top as it is called -/
structure Df (P : Program) (w : World) (K : PySem.W.Frag) (mg : Str → Option Value) (base : Heap) (CX : CXT) (k : Nat) (x : Str) (ps : List Str) (sp : Sp) (f : Addr) (fd : FuncData) : Prop where
  ok : FnOk P w K mg base CX k f fd ps sp
  b : Binds K fd ps []
  k : PySem.W.keepIn K (.ref f) = true
  m : mg x = some (.ref f)
theorem cut_int (ns : List Int) (lo : Option Int) : ∃ ns' : List Int, cutV (ns.map V.int) lo none = ns'.map V.int ∧ ns'.length ≤ ns.length := by
  unfold cutV
  refine ⟨(ns.drop (HT.sIx (ns.map V.int).length 0 lo)).take (HT.sIx (ns.map V.int).length (ns.map V.int).length none - HT.sIx (ns.map V.int).length 0 lo), ?_, ?_⟩
  · rw [List.map_take, List.map_drop]
  · rw [List.length_take, List.length_drop]; omega
end Aw

namespace Aw
open PySem L2
/-! ### k10: two halls beside each other -/
def hq (m : AL Int) : Hl := ⟨m, [], [], [], []⟩
def W2 (A : Nat → HA) (dw : Nat → Addr) : Addr → Prop := fun b => (A 0).own b ∨ (A 1).own b ∨ b = dw 0 ∨ b = dw 1
structure TwoAt (C : HC) (H : Hp) (A : Nat → HA) (m : Nat → AL Int) (dw : Nat → Addr) (g : Nat → AL Int) : Prop where
  hall : ∀ i, i < 2 → HallAt C (W2 A dw) H (A i) (hq (m i))
  dis : ∀ i j b, i < 2 → j < 2 → i ≠ j → (A i).own b → ¬ (A j).own b
  dict : ∀ i, i < 2 → ∃ kvs, H (dw i) = some (.dK kvs) ∧ DR IntV kvs (g i)
  dne : dw 0 ≠ dw 1
  dno : ∀ i j, i < 2 → j < 2 → ¬ (A i).own (dw j)
section
variable {C : HC} {H H' : Hp} {A : Nat → HA} {m g : Nat → AL Int} {dw : Nat → Addr}
theorem TwoAt.same (a : TwoAt C H A m dw g) (s : Same H H') : TwoAt C H' A m dw g :=
  ⟨fun i hi => (a.hall i hi).same s, a.dis, fun i hi => by obtain ⟨k, e, d⟩ := a.dict i hi; exact ⟨k, s _ _ e, d⟩, a.dne, a.dno⟩
/-- one hall was changed, at its wells and works -/
theorem TwoAt.put (a : TwoAt C H A m dw g) {t : Nat} (ht : t < 2) {m' : AL Int} (st : Stay2 (A t) H H') (ha : HallAt C (W2 A dw) H' (A t) (hq m')) : TwoAt C H' A (fun i => if i = t then m' else m i) dw g := by
  have at_ := a.hall t ht
  have own : ∀ b, (A t).own b → W2 A dw b := at_.own
  have fr : Fr (W2 A dw) H H' := fun b o e k => by
    refine st b o e (fun w => ?_) (fun w => ?_)
    · obtain ⟨xs, z⟩ := k (own b (.inr (.inl w)))
      subst z
      exact at_.notup (.inr (.inl w)) xs e
    · obtain ⟨xs, z⟩ := k (own b (.inr (.inr (.inl w))))
      subst z
      exact at_.notup (.inr (.inr (.inl w))) xs e
  refine ⟨fun i hi => ?_, a.dis, fun i hi => ?_, a.dne, a.dno⟩
  · by_cases c : i = t
    · subst c
      rw [if_pos rfl]; exact ha
    · rw [if_neg c]
      refine (a.hall i hi).fr fr fun b o => ?_
      obtain ⟨u, e, _⟩ := (a.hall i hi).there o
      rw [e]
      exact st b u e (fun w => a.dis t i b ht hi (Ne.symm c) (.inr (.inl w)) o) (fun w => a.dis t i b ht hi (Ne.symm c) (.inr (.inr (.inl w))) o)
  · obtain ⟨k, e, d⟩ := a.dict i hi
    exact ⟨k, st _ _ e (fun w => a.dno t i ht hi (.inr (.inl w))) (fun w => a.dno t i ht hi (.inr (.inr (.inl w)))), d⟩
/-- one of the law's dicts was changed -/
theorem TwoAt.set (a : TwoAt C H A m dw g) {t : Nat} (ht : t < 2) {kvs : List (Key × V)} {g' : AL Int} (d : DR IntV kvs g') : TwoAt C (upd H (dw t) (.dK kvs)) A m dw (fun i => if i = t then g' else g i) := by
  have no : ∀ i, i < 2 → ∀ b, (A i).own b → b ≠ dw t := fun i hi b o e => a.dno i t hi ht (by rw [← e]; exact o)
  obtain ⟨k0, e0, _⟩ := a.dict t ht
  refine ⟨fun i hi => (a.hall i hi).fr (fun b o e k => ?_) fun b o => by rw [upd_ne (no i hi b o)], a.dis, fun i hi => ?_, a.dne, a.dno⟩
  · by_cases c : b = dw t
    · subst c
      obtain ⟨xs, z⟩ := k (by
        have : t = 0 ∨ t = 1 := by omega
        rcases this with x | x <;> subst x
        · exact .inr (.inr (.inl rfl))
        · exact .inr (.inr (.inr rfl)))
      subst z
      rw [e0] at e
      cases e
    · rw [upd_ne c]; exact e
  · by_cases c : i = t
    · subst c
      exact ⟨kvs, upd_same, by rw [if_pos rfl]; exact d⟩
    · obtain ⟨k, e, d'⟩ := a.dict i hi
      refine ⟨k, ?_, by rw [if_neg c]; exact d'⟩
      rw [upd_ne]
      · exact e
      · intro w
        have : (i = 0 ∧ t = 1) ∨ (i = 1 ∧ t = 0) := by omega
        rcases this with ⟨x, y⟩ | ⟨x, y⟩ <;> subst x <;> subst y
        · exact a.dne w
        · exact a.dne w.symm
/-- the runs of one were taken: a new list of none -/
theorem TwoAt.runs (a : TwoAt C H A m dw g) {t : Nat} (ht : t < 2) {u : Addr} (hu : H u = none) (bt : But (A t).p H H') (ha : ∀ W' : Addr → Prop, Nw (W2 A dw) W' H → (∀ b, ({ A t with u := u } : HA).own b → W' b) → HallAt C W' H' { A t with u := u } (hq (m t))) :
    TwoAt C H' (fun i => if i = t then { A t with u := u } else A i) m dw g := by
  have at_ := a.hall t ht
  obtain ⟨A', hA'⟩ : ∃ A' : Nat → HA, A' = fun i => if i = t then { A t with u := u } else A i := ⟨_, rfl⟩
  rw [← hA']
  have et : A' t = { A t with u := u } := by rw [hA']; exact if_pos rfl
  have eo : ∀ j, j ≠ t → A' j = A j := fun j c => by rw [hA']; exact if_neg c
  have o1 : ∀ b, (A' t).own b → (A t).own b ∨ b = u := fun b o => by
    rw [et] at o
    rcases o with z | z | z | z | z | z
    · exact .inl (.inl z)
    · exact .inl (.inr (.inl z))
    · exact .inl (.inr (.inr (.inl z)))
    · exact .inl (.inr (.inr (.inr (.inl z))))
    · exact .inr z
    · exact .inl (.inr (.inr (.inr (.inr (.inr z)))))
  have oi : ∀ i b, (A' i).own b → (A i).own b ∨ b = u := fun i b o => by
    by_cases c : i = t
    · subst c; exact o1 b o
    · rw [eo i c] at o; exact .inl o
  have nw : Nw (W2 A dw) (W2 A' dw) H := fun b w => by
    rcases w with z | z | z | z
    · rcases oi 0 b z with y | y
      · exact .inl (.inl y)
      · rw [y]; exact .inr hu
    · rcases oi 1 b z with y | y
      · exact .inl (.inr (.inl y))
      · rw [y]; exact .inr hu
    · exact .inl (.inr (.inr (.inl z)))
    · exact .inl (.inr (.inr (.inr z)))
  have own2 : ∀ i, i < 2 → ∀ b, (A' i).own b → W2 A' dw b := fun i hi b o => by
    have : i = 0 ∨ i = 1 := by omega
    rcases this with x | x <;> subst x
    · exact .inl o
    · exact .inr (.inl o)
  have pt : (A t).own (A t).p := .inl rfl
  have fr : Fr (W2 A' dw) H H' := fun b o e k => bt b o e fun w => by
    obtain ⟨xs, z⟩ := k (own2 t ht b (by rw [et, w]; exact .inl rfl))
    subst z
    rw [w] at e
    exact at_.notup pt xs e
  have und : ∀ j, j < 2 → dw j ≠ u := fun j hj w => by
    obtain ⟨k, e, _⟩ := a.dict j hj
    rw [w, hu] at e; cases e
  refine ⟨fun i hi => ?_, fun i j b hi hj nij oi' oj' => ?_, fun i hi => ?_, a.dne, fun i j hi hj o => ?_⟩
  · by_cases c : i = t
    · subst c
      have z := ha (W2 A' dw) nw (by rw [← et]; exact own2 i hi)
      rw [et]
      exact z
    · rw [eo i c]
      have z := (a.hall i hi).nw nw (by have := own2 i hi; rwa [eo i c] at this)
      refine z.fr fr fun b o => ?_
      obtain ⟨v, e, _⟩ := (a.hall i hi).there o
      rw [e]
      exact bt b v e fun w => a.dis t i b ht hi (Ne.symm c) (by rw [w]; exact pt) o
  · rcases oi i b oi' with y | y
    · rcases oi j b oj' with x | x
      · exact a.dis i j b hi hj nij y x
      · obtain ⟨v, e, _⟩ := (a.hall i hi).there y
        rw [x, hu] at e; cases e
    · rcases oi j b oj' with x | x
      · obtain ⟨v, e, _⟩ := (a.hall j hj).there x
        rw [y, hu] at e; cases e
      · have h1 : i = t := Decidable.by_contra fun c => by
          rw [eo i c] at oi'
          obtain ⟨v, e, _⟩ := (a.hall i hi).there oi'
          rw [y, hu] at e; cases e
        have h2 : j = t := Decidable.by_contra fun c => by
          rw [eo j c] at oj'
          obtain ⟨v, e, _⟩ := (a.hall j hj).there oj'
          rw [y, hu] at e; cases e
        exact nij (h1.trans h2.symm)
  · obtain ⟨k, e, d⟩ := a.dict i hi
    exact ⟨k, bt _ _ e fun w => a.dno t i ht hi (by rw [w]; exact pt), d⟩
  · rcases oi i _ o with y | y
    · exact a.dno i j hi hj y
    · exact und j hj y
end
def spSorted : Sp := fun vs H Q _ => ∃ (d : Addr) (kvs : List (Key × V)) (m : AL Int), vs = [.ref d] ∧ H d = some (.dK kvs) ∧ DR IntV kvs m ∧ m.length ≤ 60 ∧ (akeys m).Nodup ∧
  ∀ (p : Addr) (ys : List Str) (ts : List V) (H' : Hp), Same H H' → H p = none → ys.Perm (akeys m) → ys.Pairwise sle → H' p = some (.lst ts) → LR (PairAt H') ts (ys.map fun s => (s, numOf m s)) → Q (.ref p) H'
section
variable {P : Program} {w : World} {K : PySem.W.Frag} {mg : Str → Option Value} {base : Heap} {f : Addr} {fd : FuncData} {C : HC}
theorem ok_sorted (F : Fun K "_law_sorted" "_law_sorted" s_law_sorted f fd) (zs : mg "sorted" = none) (zl : mg "list" = none) : FnOk P w K mg base CX0 1 f fd ["_law_wells"] spSorted := by
  refine F.ok sc_law_sorted (fun vs H Q E h => ?_) (fun cdv A outer s H vs Q E hr h => ?_)
  · obtain ⟨d, kvs, m, rfl, _⟩ := h
    rfl
  obtain ⟨d, kvs, m, rfl, hd, dr, hl, hnd, q⟩ := h
  have nd := sc_law_sorted.nd
  refine ⟨_, pss_one (ps_ret (pe_lc (own := [("_law_name", 1)]) (g := gName 1) rfl nd (pi_list (pe_callB cr_sortedS (by rfl) zs (by decide +kernel) (pa_cons (pe_callTy (call_list_dK rfl) (by rfl) zl (by decide +kernel) (pa_cons (pv 0) pa_nil)) pa_nil)))
      (blkOk_by (N := ["_law_wells", "_law_name"]) (sc := defScope s_law_sorted) (by decide +kernel)) (fun _ _ _ _ _ => pg_name (i := 1) nd rfl (.inl rfl)) (fun _ _ _ _ _ => pts_nil)
      (fun _ _ _ _ _ => pe_tup (pa_cons (pv 1) (pa_cons (pe_dget (hu_of hr) (pv 0) (pv 1) (fun _ _ => rfl)) pa_nil))))), ?_⟩
  refine ⟨_, rfl, d, kvs, rfl, hd, fun l1 hl1 => ?_⟩
  have s1 := same_new hl1 (.lst (kvs.map fun kv => kV kv.1))
  have ek : (kvs.map fun kv => kV kv.1) = (akeys m).map V.str := by
    have := congrArg (List.map kV) dr.keys
    rw [List.map_map, List.map_map] at this
    exact this
  refine ⟨l1, akeys m, rfl, SqL.of (by rw [← ek]; exact upd_same), by unfold akeys; rw [List.length_map]; omega, fun ys l hp hs hnl => ?_⟩
  have s2 := same_new hnl (.lst (ys.map V.str))
  have s12 := s1.trans s2
  have yl := hp.length_eq
  unfold akeys at yl
  rw [List.length_map] at yl
  refine ⟨l, rfl, ⟨_, SqL.of upd_same⟩, fun D hD => ?_⟩
  have nlD : l ≠ D := ne_of_none upd_same hD
  have hDH := s12.free hD
  refine lc_list (K := K) (a := l) (xs := ys.map V.str) (fun i H' => Same H H' ∧ H' l = some (.lst (ys.map V.str)) ∧ ∃ ts, H' D = some (.lst ts) ∧ LR (PairAt H') ts ((ys.take i).map fun s => (s, numOf m s)))
    ⟨s12.trans (same_new hD _), by rw [upd_ne nlD]; exact upd_same, [], upd_same, .nil⟩ (fun i H' _ h => SqL.of h.2.1) ?_ ?_
  · rintro i x H1 hi ⟨sA, el, ts, eD, lr⟩
    obtain ⟨z, hz, rfl⟩ := mk_str hi
    have hzk : z ∈ akeys m := hp.mem_iff.mp (List.mem_of_getElem? hz)
    refine ⟨rfl, ?_⟩
    refine ⟨_, rfl, _, rfl, _, rfl, d, .int (numOf m z), rfl, by rw [← num_in dr hzk]; exact DGet.k (k := Sum.inr z) (sA _ _ hd), (by show 2 ≤ sizeLine; decide), fun tp htp => ?_⟩
    have s3 := same_new htp (.tup [.str z, .int (numOf m z)])
    have nDt : D ≠ tp := ne_of_none eD htp
    refine ⟨ts, s3 _ _ eD, ?_, same_upd (sA.trans s3) hDH _, by rw [upd_ne nlD]; exact s3 _ _ el, _, upd_same, ?_⟩
    · have := lr.len
      rw [List.length_map, List.length_take] at this
      exact small1000 (by omega)
    · have tpk : Tups H1 (upd (upd H1 tp (.tup [.str z, .int (numOf m z)])) D (.lst (ts ++ [.ref tp]))) := fun b xs e => by rw [upd_ne (ne_of e eD (by intro z; cases z))]; exact s3 _ _ e
      rw [take_more hz, List.map_append]
      exact LR.snoc (lr.imp fun _ _ _ ⟨b, x, y⟩ => ⟨b, x, tpk _ _ y⟩) ⟨tp, rfl, by rw [upd_ne nDt.symm]; exact upd_same⟩
  · rintro H1 ⟨sA, el, ts, eD, lr⟩
    rw [List.length_map, List.take_length] at lr
    exact q D ys ts H1 sA hDH hp (sorted_pair hs) eD lr
end
end Aw

namespace Aw
open PySem L2
/-! ### the law's own helpers -/
def spCell (K : PySem.W.Frag) : Sp := fun vs H Q _ => ∃ (a : Addr) (ns : List Int) (k : Nat), vs = [.ref a, .int k] ∧ SqL K H a (ns.map V.int) ∧ ns.length ≤ 63 ∧ ∀ i : Int, Q (.int i) H
def spNames : Sp := fun vs H Q _ => ∃ (c m : Int), vs = [.int c, .int m] ∧ 0 ≤ m ∧ m ≤ 100 ∧ ∀ (l : Addr) (H' : Hp) (nms : List Str), Same H H' → H l = none → H' l = some (.lst (nms.map V.str)) → (nms.length : Int) = m → (∀ s ∈ nms, NameOk s) → Q (.ref l) H'
structure TxtL (K : PySem.W.Frag) (mg : Str → Option Value) : Prop where
  len : mg "len" = none
  int : mg "int" = none
  range : mg "range" = none
  str : mg "str" = none
section
variable {P : Program} {w : World} {K : PySem.W.Frag} {mg : Str → Option Value} {base : Heap} {f : Addr} {fd : FuncData}
theorem ok_cell (F : Fun K "_law_cell_at" "_law_cell_at" s_law_cell_at f fd) (T : TxtL K mg) : FnOk P w K mg base CX0 1 f fd ["_law_script", "_law_k"] (spCell K) := by
  refine F.ok sc_law_cell_at (fun vs H Q E h => ?_) (fun cdv A outer s H vs Q E hr h => ?_)
  · obtain ⟨a, ns, k, rfl, _⟩ := h
    rfl
  obtain ⟨a, ns, k, rfl, hS, h63, q⟩ := h
  refine ⟨_, pss_cons (ps_if (pt_cmpR op_lt (pv 1) (pe_callB call_len_seq (by rfl) T.len PySem.boot_len (pa_cons (pv 0) pa_nil)) (nomark _)) (pss_one (ps_ret (pe_ix ix_list (pv 0) (pv 1) (fun _ _ => rfl)))) pss_nil)
    (pss_one (ps_ret pe_int)), ?_⟩
  refine ⟨_, rfl, _, rfl, a, _, rfl, .inl hS, _, _, rfl, rfl, _, rfl, ?_⟩
  refine ite2 (fun c => ?_) (fun c => ?_)
  · have c' : (k : Int) < (((ns.map V.int).length : Nat) : Int) := of_decide_eq_true c
    rw [List.length_map] at c'
    have hk : k < ns.length := by omega
    refine ⟨_, rfl, _, rfl, a, _, _, _, rfl, rfl, hS, atI_nat (v := .int ns[k]) ?_, q _⟩
    rw [List.getElem?_map, List.getElem?_eq_getElem hk]
    rfl
  · exact q 0
end
end Aw

namespace Aw
open PySem L2
section
variable {P : Program} {w : World} {K : PySem.W.Frag} {mg : Str → Option Value} {base : Heap} {f : Addr} {fd : FuncData}
theorem let_at {n : Int} (h0 : 0 ≤ n) (h1 : n < 26) : ∃ c, c ∈ LET ∧ atI (("abcdefghijklmnopqrstuvwxyz" : Str)).cps.toList n = some c := by
  have hk : n.toNat < LET.length := by
    have e : LET.length = 26 := by decide +kernel
    omega
  refine ⟨LET[n.toNat], List.getElem_mem hk, ?_⟩
  have q : atI LET ((n.toNat : Nat) : Int) = some LET[n.toNat] := atI_nat (List.getElem?_eq_getElem hk)
  rwa [show ((n.toNat : Nat) : Int) = n by omega] at q
theorem nameOk_of {z : Str} (h1 : 1 ≤ z.length) (h6 : z.length ≤ 6) (h : ∀ c ∈ z.cps.toList, c ∈ LET) : NameOk z := by
  unfold NameOk nameM
  rw [decide_eq_true (show 1 ≤ z.length ∧ z.length ≤ 6 from ⟨h1, h6⟩), Bool.true_and, List.all_eq_true]
  exact fun c hc => decide_eq_true (h c hc)
theorem mem_app1 {z : Str} {c : Nat} (h : ∀ x ∈ z.cps.toList, x ∈ LET) (hc : c ∈ LET) : ∀ x ∈ (z ++ sg1 c).cps.toList, x ∈ LET := by
  intro x hx
  have e : (z ++ sg1 c).cps.toList = z.cps.toList ++ [c] := by
    show (z.cps ++ #[c]).toList = _
    rw [Array.toList_append]
  rw [e] at hx
  rcases List.mem_append.mp hx with q | q
  · exact h x q
  · rw [List.mem_singleton.mp q]; exact hc
theorem ok_names (F : Fun K "_law_names" "_law_names" s_law_names f fd) (T : TxtL K mg) : FnOk P w K mg base CX0 1 f fd ["_law_cell", "_law_many"] spNames := by
  refine F.ok sc_law_names (fun vs H Q E h => ?_) (fun cdv A outer s H vs Q E hr h => ?_)
  · obtain ⟨c, m, rfl, _⟩ := h
    rfl
  obtain ⟨c, m, rfl, m0, m1, q⟩ := h
  have nd := sc_law_names.nd
  refine ⟨_, pss_cons (ps_set (i := 2) nd rfl (.inl rfl) pe_str)
    (pss_cons (ps_set (i := 3) nd rfl (.inl rfl) (pe_op op_add pe_int (pe_op op_mod (pv 0) pe_int)))
    (pss_cons (ps_set (i := 4) nd rfl (.inl rfl) (pe_op op_mod (pe_op op_fdiv (pv 0) pe_int) (pv 3)))
    (pss_cons (ps_set (i := 5) nd rfl (.inl rfl) (pe_lst pa_nil))
    (pss_cons (ps_for PassesOwn.never rfl (pi_range1 rfl T.range (pa_cons (pv 1) pa_nil)) (pg_name (i := 6) nd rfl (.inl rfl))
      (pss_cons (ps_set (i := 7) nd rfl (.inl rfl) pe_str)
      (pss_cons (ps_for PassesOwn.never rfl (pi_range1 rfl T.range (pa_cons (pv 3) pa_nil)) (pg_name (i := 8) nd rfl (.inl rfl))
        (pss_cons (ps_set (i := 9) nd rfl (.inl rfl) (pe_op op_add (pe_op op_mod (pe_op op_fdiv (pv 0) pe_int) pe_int) (pe_op op_mul pe_int (pv 8))))
        (pss_cons (ps_if (pt_cmpR op_eq (pv 8) (pv 4) (nomark _)) (pss_one (ps_set (i := 9) nd rfl (.inl rfl) (pe_op op_add (pv 9) (pv 6)))) pss_nil)
        (pss_one (ps_set (i := 7) nd rfl (.inl rfl) (pe_op op_add_str (pv 7) (pe_ix ix_str (pv 2) (pe_op op_mod (pv 9) pe_int) (fun _ _ => rfl))))))))
      (pss_one (ps_expr (pe_bm PySem.F.plainAttrs_list PySem.F.slot_list_append PySem.F.type_list_append mt_append (pv 5) (pa_cons (pv 7) pa_nil)))))))
    (pss_one (ps_ret (pv 5))))))), ?_⟩
  have hs0 : 0 ≤ c % 6 := Int.emod_nonneg _ (by decide)
  have hs1 : c % 6 < 6 := Int.emod_lt_of_pos _ (by decide)
  refine ⟨_, rfl, _, _, rfl, rfl, (by show (0 : Int) < 6; decide), _, _, rfl, rfl, ?_⟩
  refine ⟨_, rfl, _, _, rfl, rfl, ⟨by decide, by decide⟩, _, rfl, _, _, rfl, rfl, (by show 0 < 1 + c % 6; omega), ?_⟩
  refine ⟨(by show 0 ≤ sizeLine; decide), fun l hl => ?_⟩
  refine ⟨_, rfl, m, rfl, by omega, by omega, ?_⟩
  refine for_range (lo := 0) (n := m.toNat) (fun i σ H' => ∃ (nms : List Str) (v6 v7 v8 v9 : Option V), σ = [some (.int c), some (.int m), some (.str "abcdefghijklmnopqrstuvwxyz"), some (.int (1 + c % 6)), some (.int (c / 6 % (1 + c % 6))), some (.ref l), v6, v7, v8, v9] ∧
    Same H H' ∧ H' l = some (.lst (nms.map V.str)) ∧ nms.length = i ∧ ∀ s ∈ nms, NameOk s) ⟨[], none, none, none, none, rfl, same_new hl _, upd_same, rfl, fun s hs => by cases hs⟩ ?_ ?_
  · rintro i σ H1 hi ⟨nms, v6, v7, v8, v9, rfl, s1, e1, hlen, hok⟩
    refine ⟨_, rfl, 1 + c % 6, rfl, by omega, by omega, ?_⟩
    refine for_range (lo := 0) (n := (1 + c % 6).toNat) (fun j σ H' => ∃ (z : Str) (v8 v9 : Option V), σ = [some (.int c), some (.int m), some (.str "abcdefghijklmnopqrstuvwxyz"), some (.int (1 + c % 6)), some (.int (c / 6 % (1 + c % 6))), some (.ref l), some (.int (0 + (i : Int))), some (.str z), v8, v9] ∧
      H' = H1 ∧ z.length = j ∧ ∀ x ∈ z.cps.toList, x ∈ LET) ⟨Str.empty, _, _, rfl, rfl, rfl, fun x hx => by cases hx⟩ ?_ ?_
    · rintro j σ H2 hj ⟨z, v8, v9, rfl, rfl, hz, hl'⟩
      refine ⟨_, rfl, _, _, rfl, rfl, ⟨by decide, by decide⟩, _, _, rfl, rfl, (by show (0 : Int) < 26; decide), _, rfl, _, _, rfl, rfl, .inl ⟨by decide, by decide⟩, _, _, rfl, rfl, ?_⟩
      refine ⟨_, rfl, _, rfl, rfl, _, rfl, ?_⟩
      have hz6 : (j : Int) < 6 := by omega
      refine ite2 (fun _ => ?_) (fun _ => ?_)
      · refine ⟨_, rfl, _, rfl, _, _, rfl, rfl, ?_⟩
        obtain ⟨ch, hc, ec⟩ := let_at (n := (c / 36 % 26 + 5 * (0 + (j : Int)) + (0 + (i : Int))) % 26) (Int.emod_nonneg _ (by decide)) (Int.emod_lt_of_pos _ (by decide))
        refine ⟨_, rfl, _, rfl, _, rfl, _, _, rfl, rfl, (by show (0 : Int) < 26; decide), _, _, ch, rfl, rfl, (by decide +kernel), ec, z, sg1 ch, rfl, rfl, big (by rw [len_sg1]; omega), ?_⟩
        exact ⟨z ++ sg1 ch, _, _, rfl, rfl, by rw [len_app, len_sg1, hz], mem_app1 hl' hc⟩
      · obtain ⟨ch, hc, ec⟩ := let_at (n := (c / 36 % 26 + 5 * (0 + (j : Int))) % 26) (Int.emod_nonneg _ (by decide)) (Int.emod_lt_of_pos _ (by decide))
        refine ⟨_, rfl, _, rfl, _, rfl, _, _, rfl, rfl, (by show (0 : Int) < 26; decide), _, _, ch, rfl, rfl, (by decide +kernel), ec, z, sg1 ch, rfl, rfl, big (by rw [len_sg1]; omega), ?_⟩
        exact ⟨z ++ sg1 ch, _, _, rfl, rfl, by rw [len_app, len_sg1, hz], mem_app1 hl' hc⟩
    · rintro σ H2 ⟨z, v8, v9, rfl, rfl, hz, hl'⟩
      refine ⟨_, rfl, .inl ⟨rfl, _, SqL.of e1⟩, _, rfl, l, _, _, rfl, rfl, e1, small1000 (by rw [List.length_map]; omega), ?_⟩
      refine ⟨nms ++ [z], _, _, _, _, rfl, same_upd s1 hl _, (by rw [upd_same, List.map_append]; rfl), by rw [List.length_append, List.length_singleton, hlen], fun s hs => ?_⟩
      rcases List.mem_append.mp hs with q | q
      · exact hok s q
      · rw [List.mem_singleton.mp q]
        exact nameOk_of (by omega) (by omega) hl'
  · rintro σ H1 ⟨nms, v6, v7, v8, v9, rfl, s1, e1, hlen, hok⟩
    exact ⟨_, rfl, q l H1 nms s1 hl e1 (by omega) hok⟩
end
end Aw

namespace Aw
open PySem L2
def spWhole : Sp := fun vs H Q _ => ∃ i : Int, vs = [.int i] ∧ Q (.bl true) H
theorem ok_whole {P : Program} {w : World} {K : PySem.W.Frag} {mg : Str → Option Value} {base : Heap} {f : Addr} {fd : FuncData} (F : Fun K "_law_whole" "_law_whole" s_law_whole f fd) (z1 : mg "isinstance" = none) (z2 : mg "int" = none) (z3 : mg "bool" = none) : FnOk P w K mg base CX0 1 f fd ["_law_found"] spWhole := by
  refine F.ok sc_law_whole (fun vs H Q E h => ?_) (fun cdv A outer s H vs Q E hr h => ?_)
  · obtain ⟨i, rfl, _⟩ := h
    rfl
  obtain ⟨i, rfl, q⟩ := h
  refine ⟨_, pss_one (ps_ret (pe_and (pe_callB call_isi (by rfl) z1 (by decide +kernel) (pa_cons (pv 0) (pa_cons (pe_bltn (v := .ty "int") (by rfl) z2 (by decide +kernel) rfl) pa_nil)))
    (pe_one (pe_not (pe_callB call_isi (by rfl) z1 (by decide +kernel) (pa_cons (pv 0) (pa_cons (pe_bltn (v := .ty "bool") (by rfl) z3 (by decide +kernel) rfl) pa_nil))))))), ?_⟩
  refine ⟨_, rfl, _, _, _, _, true, rfl, .ty _, .base (.int _), kit_ty (by decide +kernel), _, rfl, ?_⟩
  rw [if_pos rfl]
  exact ⟨_, rfl, _, _, _, _, false, rfl, .ty _, .base (.int _), kit_ty (by decide +kernel), _, rfl, q⟩
end Aw

namespace Aw
open PySem L2
section
variable {P : Program} {w : World} {K : PySem.W.Frag} {mg : Str → Option Value} {base : Heap} {f : Addr} {fd : FuncData} {C : HC}
/-- a method of the hall -/
structure Hm (P : Program) (w : World) (K : PySem.W.Frag) (mg : Str → Option Value) (base : Heap) (CX : CXT) (c : Addr) (k : Nat) (x : Str) (ps : List Str) (sp : Sp) (f : Addr) (fd : FuncData) : Prop where
  ok : FnOk P w K mg base CX k f fd ps sp
  b : Binds K fd ps []
  m : Meth K c x f
structure TxtK10 (mg : Str → Option Value) : Prop where
  len : mg "len" = none
  isi : mg "isinstance" = none
  dict : mg "dict" = none
  range : mg "range" = none
theorem at_modN {nms : List Str} (h : 1 ≤ nms.length) (c : Int) : ∃ s, s ∈ nms ∧ atI (nms.map V.str) (c % ((nms.map V.str).length : Nat)) = some (.str s) := by
  rw [List.length_map]
  have h0 : 0 ≤ c % (nms.length : Int) := Int.emod_nonneg _ (by omega)
  have h1 : c % (nms.length : Int) < nms.length := Int.emod_lt_of_pos _ (by omega)
  have hk : (c % (nms.length : Int)).toNat < nms.length := by omega
  refine ⟨nms[(c % (nms.length : Int)).toNat], List.getElem_mem hk, ?_⟩
  have q : atI (nms.map V.str) (((c % (nms.length : Int)).toNat : Nat) : Int) = some (.str nms[(c % (nms.length : Int)).toNat]) := atI_nat (by rw [List.getElem?_map, List.getElem?_eq_getElem hk]; rfl)
  rwa [show (((c % (nms.length : Int)).toNat : Nat) : Int) = c % (nms.length : Int) by omega] at q
theorem nodup_sub1 : ∀ {l u : List Str}, l.Nodup → (∀ x ∈ l, x ∈ u) → l.length ≤ u.length
  | [], _, _, _ => Nat.zero_le _
  | a :: l, u, nd, h => by
    rw [List.nodup_cons] at nd
    have ha := h a List.mem_cons_self
    have ih := nodup_sub1 (l := l) (u := u.erase a) nd.2 fun x hx => (List.mem_erase_of_ne (fun e => nd.1 (by rw [← e]; exact hx))).mpr (h x (List.mem_cons_of_mem _ hx))
    rw [List.length_erase_of_mem ha] at ih
    have := List.length_pos_of_mem ha
    rw [List.length_cons]
    omega
theorem val_at {g : Str → V} {l : List Str} {s : Str} (h : s ∈ l) : valV (l.map fun z => ((Sum.inr z : Key), g z)) (Sum.inr s) = some (g s) := by
  induction l with
  | nil => cases h
  | cons a r ih =>
    by_cases e : a = s
    · subst e; exact valV_pos rfl
    · rw [List.map_cons, valV_neg (fun z => e (Sum.inr.inj z))]
      exact ih ((List.mem_cons.mp h).resolve_left (Ne.symm e))
theorem nameOk_le {z : Str} (h : NameOk z) : z.length ≤ 1000 := by
  unfold NameOk nameM at h
  have := of_decide_eq_true (Bool.and_eq_true_iff.mp h).1
  omega
theorem pairs_data {K : PySem.W.Frag} {H : Hp} : ∀ {ts : List V} {qs : List (Str × Int)}, LR (PairAt H) ts qs → DpAll K H ts (qs.map fun q => PyData.tuple [.str q.1, .int q.2])
  | [], _, h => by cases h; exact .nil
  | t :: r, _, h => by
    cases h with
    | cons a b =>
      obtain ⟨p, rfl, e⟩ := a
      exact .cons (.tup (SqT.of e) (.cons (.str _) (.cons (.int _) .nil))) (pairs_data b)
theorem pairs_can : ∀ (qs : List (Str × Int)), (∀ q ∈ qs, NameOk q.1) → PyData.canLayAll0 (qs.map fun q => PyData.tuple [.str q.1, .int q.2]) = true
  | [], _ => by simp [PyData.canLayAll0]
  | q :: r, h => by
    show (PyData.canLay0 (.tuple [.str q.1, .int q.2]) && PyData.canLayAll0 (r.map fun q => PyData.tuple [.str q.1, .int q.2])) = true
    rw [pairs_can r fun u hu => h u (List.mem_cons_of_mem _ hu), Bool.and_true]
    have e := strOk_name (h q List.mem_cons_self)
    simp [PyData.canLay0, PyData.canLayAll0, e]
theorem pairs_depth : ∀ (qs : List (Str × Int)), PyData.depthAll (qs.map fun q => PyData.tuple [.str q.1, .int q.2]) ≤ 4
  | [] => by show PyData.depthAll [] ≤ 4; unfold PyData.depthAll; omega
  | q :: r => by
    have ih := pairs_depth r
    show max (PyData.depth (.tuple [.str q.1, .int q.2])) (PyData.depthAll (r.map fun q => PyData.tuple [.str q.1, .int q.2])) ≤ 4
    have e : PyData.depth (.tuple [.str q.1, .int q.2]) ≤ 4 := by simp [PyData.depth, PyData.depthAll]
    omega
theorem pairs_shaped {qs : List (Str × Int)} (h : ∀ q ∈ qs, NameOk q.1) : SeqAt.shaped (.list (qs.map fun q => PyData.tuple [.str q.1, .int q.2])) = true := by
  unfold SeqAt.shaped
  have e1 : PyData.canLay0 (.list (qs.map fun q => PyData.tuple [.str q.1, .int q.2])) = true := by unfold PyData.canLay0; exact pairs_can qs h
  have e2 : PyData.depth (.list (qs.map fun q => PyData.tuple [.str q.1, .int q.2])) ≤ 64 := by
    have := pairs_depth qs
    unfold PyData.depth
    omega
  rw [e1, decide_eq_true e2]
  rfl
theorem pairs_eqv {qs : List (Str × Int)} (h : ∀ q ∈ qs, NameOk q.1) : PyData.eqv (.list (qs.map fun q => PyData.tuple [.str q.1, .int q.2])) (.list (qs.map fun q => PyData.tuple [.str q.1, .int q.2])) = true := by
  refine SeqAt.eqv_refl _ ?_
  unfold PyData.canLay0
  exact pairs_can qs h
theorem atI2 {x y : V} {t : Nat} (ht : t < 2) (g : Nat → V) (h0 : g 0 = x) (h1 : g 1 = y) : atI [x, y] (t : Int) = some (g t) := by
  have : t = 0 ∨ t = 1 := by omega
  rcases this with e | e <;> subst e
  · rw [h0]; rfl
  · rw [h1]; rfl
variable {fi f1 f2 f3 f4 m1 m2 m3 m4 m5 m6 : Addr} {di d1 d2 d3 d4 e1 e2 e3 e4 e5 e6 : FuncData} {NN NB NF : Addr}
theorem ok_law (F : Fun K "law" "law" s_law f fd) (T : TxtK10 mg) (TH : TxtH K mg C) (M : Mk K C.h fi) (gH : mg "Hall" = some (.ref C.h)) (GI : FnOk P w K mg base CX0 1 fi di ["self"] (spHInit C)) (bI : Binds K di ["self"] [])
    (Ce : Df P w K mg base CX0 1 "_law_cell_at" ["_law_script", "_law_k"] (spCell K) f1 d1) (Nm : Df P w K mg base CX0 1 "_law_names" ["_law_cell", "_law_many"] spNames f2 d2) (Wh : Df P w K mg base CX0 1 "_law_whole" ["_law_found"] spWhole f3 d3) (So : Df P w K mg base CX0 1 "_law_sorted" ["_law_wells"] spSorted f4 d4)
    (Pu : Hm P w K mg base (L2.CX P w) C.h 3 "put" ["self", "name", "number"] (spPut C NN NB NF) m1 e1) (As : Hm P w K mg base (L2.CX P w) C.h 3 "ask" ["self", "name"] (spAskW C NN) m2 e2) (We : Hm P w K mg base CX0 C.h 1 "wells" ["self"] (spWellsH C) m3 e3)
    (Ru : Hm P w K mg base CX0 C.h 1 "runs" ["self"] (spRunsH C) m4 e4) (Wo : Hm P w K mg base CX0 C.h 1 "works" ["self"] (spWorks0 C) m5 e5) (Ri : Hm P w K mg base CX0 C.h 1 "rings" ["self"] (spRings0 C) m6 e6) : FnOk P w K mg base CX0 4 f fd ["_law_script"] (spLaw K) := by
  refine F.ok sc_law (fun vs H Q E h => ?_) (fun cdv A0 outer s H vs Q E hr h => ?_)
  · obtain ⟨a, ns, rfl, _⟩ := h
    rfl
  obtain ⟨a, ns, rfl, hS, h63, q⟩ := h
  have nd := sc_law.nd
  have hr1 : Room 1 _ := hr.mono (by decide)
  have hr2 : Room 2 _ := hr.mono (by decide)
  refine ⟨_, pss_cons (ps_set (i := 1) nd rfl (.inl rfl) (pe_call Nm.ok hr1 rfl Nm.m Nm.k Nm.b .nil pass0 (pa_cons (pe_call Ce.ok hr1 rfl Ce.m Ce.k Ce.b .nil pass0 (pa_cons (pv 0) (pa_cons pe_int pa_nil)))
      (pa_cons (pe_op op_add pe_int (pe_op op_mod (pe_call Ce.ok hr1 rfl Ce.m Ce.k Ce.b .nil pass0 (pa_cons (pv 0) (pa_cons pe_int pa_nil))) pe_int)) pa_nil))))
    (pss_cons (ps_set (i := 2) nd rfl (.inl rfl) (pe_lst (pa_cons (pe_make0 M GI hr2 rfl gH bI .nil pass0) (pa_cons (pe_make0 M GI hr2 rfl gH bI .nil pass0) pa_nil))))
    (pss_cons (ps_set (i := 3) nd rfl (.inl rfl) (pe_lst (pa_cons pe_dnewK (pa_cons pe_dnewK pa_nil))))
    (pss_cons (ps_set (i := 4) nd rfl (.inl rfl) pe_int)
    (pss_cons (ps_for PassesOwn.never rfl (pi_list (pe_slice sl_list (pv 0) (po_some pe_int) po_none)) (pg_name (i := 5) nd rfl (.inl rfl))
      (pss_cons (ps_set (i := 4) nd rfl (.inl rfl) (pe_op op_sub pe_int (pv 4)))
      (pss_cons (ps_set (i := 6) nd rfl (.inl rfl) (pe_ix ix_list (pv 1) (pe_op op_mod (pv 5) (pe_callB call_len_seq (by rfl) T.len PySem.boot_len (pa_cons (pv 1) pa_nil))) (fun _ _ => rfl)))
      (C8.pss_cut (ps_if (pt_cmpR op_eq (pe_op op_mod (pe_op op_fdiv (pv 5) pe_int) pe_int) pe_int (nomark _))
        (pss_cons (ps_if (pt_cmpR op_notN (pe_meth (E := E0) (pe_ix ix_list (pv 2) (pv 4) (fun _ _ => rfl)) TH.cl Pu.m Pu.ok hr Pu.b .nil passL (pa_cons (pv 6) (pa_cons (pe_op op_mod (pe_op op_fdiv (pv 5) pe_int) pe_int) pa_nil))) pe_non (nomark _)) (pss_one (ps_ret pe_bl)) pss_nil)
        (pss_one (ps_dput (hu_of hr) (pe_ix ix_list (pv 3) (pv 4) (fun _ _ => rfl)) (pv 6) (pe_op op_mod (pe_op op_fdiv (pv 5) pe_int) pe_int) rfl))) pss_nil)
      (pss_cons (ps_set (i := 7) nd rfl (.inr rfl) (pe_meth (E := E0) (pe_ix ix_list (pv 2) (pv 4) (fun _ _ => rfl)) TH.cl As.m As.ok hr As.b .nil passL (pa_cons (pv 6) pa_nil)))
      (pss_one (ps_if (PW.pt (pw_or (pt_not (pt_val (pe_call Wh.ok hr1 rfl Wh.m Wh.k Wh.b .nil pass0 (pa_cons (pv 7) pa_nil)))) (pw_or1 (pt_cmpR op_ne (pv 7) (pe_dget2 (hu_of hr) (pe_ix ix_list (pv 3) (pv 4) (fun _ _ => rfl)) (pv 6) pe_int ⟨rfl, rfl, rfl, rfl⟩) (nomark _))))) (pss_one (ps_ret pe_bl)) pss_nil)))))))
    (pss_cons (ps_for PassesOwn.never rfl (pi_range1 rfl T.range (pa_cons pe_int pa_nil)) (pg_name (i := 8) nd rfl (.inl rfl))
      (pss_cons (ps_set (i := 7) nd rfl (.inr rfl) (pe_meth0 (pe_ix ix_list (pv 2) (pv 8) (fun _ _ => rfl)) TH.cl We.m We.ok hr1 We.b .nil pass0))
      (pss_cons (ps_if (PW.pt (pw_or (pt_not (pt_val (pe_callB call_isi (by rfl) T.isi (by decide +kernel) (pa_cons (pv 7) (pa_cons (pe_bltn (v := .ty "dict") (by rfl) T.dict (by decide +kernel) rfl) pa_nil)))))
          (pw_or1 (pt_cmpR (op_neD hr.units) (pe_lock (pe_lc (own := [("_law_name", 6)]) (g := gName 6) rfl nd (pi_keys (pv 7)) (blkOk_by (N := ["_law_script", "_law_names_here", "_law_halls", "_law_wells", "_law_turn", "_law_cell", "_law_name", "_law_found", "_law_k"]) (sc := defScope s_law) (by decide +kernel))
            (fun _ _ _ _ _ => pg_name (i := 6) nd rfl (.inl rfl)) (fun _ _ _ _ _ => pts_nil) (fun _ _ _ _ _ => pe_tup (pa_cons (pv 6) (pa_cons (pe_dget (hu_of hr) (pv 7) (pv 6) (fun _ _ => rfl)) pa_nil)))))
            (pe_call So.ok hr1 rfl So.m So.k So.b .nil pass0 (pa_cons (pe_ix ix_list (pv 3) (pv 8) (fun _ _ => rfl)) pa_nil)) (nomark _))))) (pss_one (ps_ret pe_bl)) pss_nil)
      (pss_one (ps_if (PW.pt (pw_or (pt_cmpR (op_neD hr.units) (pe_meth0 (pe_ix ix_list (pv 2) (pv 8) (fun _ _ => rfl)) TH.cl Ru.m Ru.ok hr1 Ru.b .nil pass0) (pe_lst pa_nil) (nomark _))
          (pw_or (pt_cmpR (op_ne_dictI (Room.units0 hr)) (pe_meth0 (pe_ix ix_list (pv 2) (pv 8) (fun _ _ => rfl)) TH.cl Wo.m Wo.ok hr1 Wo.b .nil pass0) pe_dnewK (nomark _))
          (pw_or1 (pt_cmpR (op_neD hr.units) (pe_meth0 (pe_ix ix_list (pv 2) (pv 8) (fun _ _ => rfl)) TH.cl Ri.m Ri.ok hr1 Ri.b .nil pass0) (pe_lst pa_nil) (nomark _)))))) (pss_one (ps_ret pe_bl)) pss_nil)))))
    (pss_one (ps_ret pe_bl))))))), ?_⟩
  refine ⟨_, rfl, a, ns, 0, rfl, hS, h63, fun c0 => ?_⟩
  refine ⟨_, rfl, a, ns, 1, rfl, hS, h63, fun c1 => ?_⟩
  have m0 : 0 ≤ c1 % 8 := Int.emod_nonneg _ (by decide)
  have m8 : c1 % 8 < 8 := Int.emod_lt_of_pos _ (by decide)
  refine ⟨_, _, rfl, rfl, (by show (0 : Int) < 8; decide), _, _, rfl, rfl, c0, 2 + c1 % 8, rfl, by omega, by omega, fun l H1 nms s1 hl el hlen hok => ?_⟩
  have mk1 : ∀ {H1 H2 : Hp} {p dx : Addr} {B : HA}, H1 p = none → H1 dx = none → B.p = p → (∀ b, B.own b → b = p ∨ (upd (upd H1 dx (.own p)) p (.ins C.h dx [])) b = none) → But p (upd (upd H1 dx (.own p)) p (.ins C.h dx [])) H2 → Same H1 H2 ∧ ∀ b, B.own b → H1 b = none := by
    intro H1 H2 p dx B np nd' ep own b2
    refine ⟨fun b o e => b2 b o (by rw [upd_ne (ne_of_none e np), upd_ne (ne_of_none e nd')]; exact e) (ne_of_none e np), fun b o => ?_⟩
    rcases own b o with z | z
    · rw [z]; exact np
    · cases e : H1 b with
      | none => rfl
      | some u => rw [upd_ne (ne_of_none e np), upd_ne (ne_of_none e nd'), e] at z; cases z
  refine fun p0 dx0 np0 nd0 ne0 => ⟨p0, dx0, rfl, upd_same, fun B0 H2 ep0 ed0 own0 b2 mk0 => ⟨rfl, ?_⟩⟩
  obtain ⟨s2, own0⟩ := mk1 np0 nd0 ep0 own0 b2
  refine fun p1 dx1 np1 nd1 ne1 => ⟨p1, dx1, rfl, upd_same, fun B1 H3 ep1 ed1 own1 b3 mk2 => ⟨rfl, ?_⟩⟩
  obtain ⟨s3, own1⟩ := mk1 np1 nd1 ep1 own1 b3
  have a0 := mk0 B0.own fun _ o => o
  have dis01 : ∀ b, B0.own b → ¬ B1.own b := fun b o0 o1 => by
    obtain ⟨u, e, _⟩ := a0.there o0
    rw [own1 b o1] at e; cases e
  refine ⟨(by show 2 ≤ sizeLine; decide), fun hl hhl => ?_⟩
  have s4 := same_new hhl (.lst [.ref p0, .ref p1])
  refine fun d0 hd0 => ?_
  have s5 := same_new hd0 (.dK [])
  refine fun d1 hd1 => ⟨(by show 2 ≤ sizeLine; decide), fun wl hwl => ?_⟩
  have s6 := same_new hd1 (.dK [])
  have s7 := same_new hwl (.lst [.ref d0, .ref d1])
  obtain ⟨A, hA⟩ : ∃ A : Nat → HA, A = fun i => if i = 0 then B0 else B1 := ⟨_, rfl⟩
  obtain ⟨dw, hdw⟩ : ∃ dw : Nat → Addr, dw = fun i => if i = 0 then d0 else d1 := ⟨_, rfl⟩
  have A0e : A 0 = B0 := by rw [hA]; rfl
  have A1e : A 1 = B1 := by rw [hA]; rfl
  have D0e : dw 0 = d0 := by rw [hdw]; rfl
  have D1e : dw 1 = d1 := by rw [hdw]; rfl
  have two : ∀ i : Nat, i < 2 → i = 0 ∨ i = 1 := fun i hi => by omega
  generalize hHE : upd (upd (upd (upd H3 hl (.lst [.ref p0, .ref p1])) d0 (.dK [])) d1 (.dK [])) wl (.lst [.ref d0, .ref d1]) = HE at *
  have s37 : Same H3 HE := ((s4.trans s5).trans s6).trans s7
  have W0 : ∀ b, B0.own b → W2 A dw b := fun b o => .inl (by rw [A0e]; exact o)
  have W1 : ∀ b, B1.own b → W2 A dw b := fun b o => .inr (.inl (by rw [A1e]; exact o))
  have h0E : HallAt C (W2 A dw) HE B0 (hq []) := ((mk0 _ W0).same s3).same s37
  have h1E : HallAt C (W2 A dw) HE B1 (hq []) := (mk2 _ W1).same s37
  have t4 : ∀ b, B0.own b ∨ B1.own b → ∃ u, (upd H3 hl (.lst [.ref p0, .ref p1])) b = some u := fun b o => by
    rcases o with o | o
    · obtain ⟨u, e, _⟩ := ((mk0 _ W0).same s3).there o
      exact ⟨u, s4 _ _ e⟩
    · obtain ⟨u, e, _⟩ := (mk2 _ W1).there o
      exact ⟨u, s4 _ _ e⟩
  have TE : TwoAt C HE A (fun _ => []) dw (fun _ => []) := by
    refine ⟨fun i hi => ?_, fun i j b hi hj nij o1 o2 => ?_, fun i hi => ?_, ?_, fun i j hi hj o => ?_⟩
    · rcases two i hi with x | x <;> subst x
      · rw [A0e]; exact h0E
      · rw [A1e]; exact h1E
    · rcases two i hi with x | x <;> rcases two j hj with y | y <;> subst x <;> subst y
      · exact nij rfl
      · rw [A0e] at o1; rw [A1e] at o2; exact dis01 b o1 o2
      · rw [A1e] at o1; rw [A0e] at o2; exact dis01 b o2 o1
      · exact nij rfl
    · rcases two i hi with x | x <;> subst x
      · rw [D0e]; exact ⟨[], s7 _ _ (s6 _ _ upd_same), .nil⟩
      · rw [D1e]; exact ⟨[], s7 _ _ upd_same, .nil⟩
    · rw [D0e, D1e]; exact ne_of_none upd_same hd1
    · have o' : B0.own (dw j) ∨ B1.own (dw j) := by
        rcases two i hi with x | x <;> subst x
        · rw [A0e] at o; exact .inl o
        · rw [A1e] at o; exact .inr o
      obtain ⟨u, e⟩ := t4 _ o'
      rcases two j hj with y | y <;> subst y
      · rw [D0e, hd0] at e; cases e
      · rw [D1e] at e
        have := s5 _ _ e
        rw [hd1] at this; cases this
  have ehl : HE hl = some (.lst [.ref (A 0).p, .ref (A 1).p]) := by rw [A0e, A1e, ep0, ep1]; exact s7 _ _ (s6 _ _ (s5 _ _ upd_same))
  have ewl : HE wl = some (.lst [.ref (dw 0), .ref (dw 1)]) := by rw [D0e, D1e, ← hHE]; exact upd_same
  have sE := (s1.trans (s2.trans s3)).trans s37
  have elE : HE l = some (.lst (nms.map V.str)) := s37 _ _ (s3 _ _ (s2 _ _ el))
  refine ⟨_, rfl, _, rfl, a, _, rfl, sE.seq hS, fun ps hps => ?_⟩
  obtain ⟨ns', ens, hns⟩ := cut_int ns (some 2)
  have s8 := same_new hps (.lst (cutV (ns.map V.int) (some 2) none))
  rw [ens] at s8 ⊢
  have kb : ∀ {m : AL Int}, (akeys m).Nodup → (∀ s ∈ akeys m, s ∈ nms) → m.length ≤ nms.length := fun {m} h1 h2 => by
    have := nodup_sub1 h1 h2
    unfold akeys at this
    rwa [List.length_map] at this
  refine ⟨ps, rfl, ⟨_, SqL.of upd_same⟩, for_list (K := K) (a := ps) (xs := ns'.map V.int) (fun i σ H' => ∃ (tn : Nat) (v5 v6 v7 : Option V) (m : Nat → AL Int), tn < 2 ∧ σ = [some (.ref a), some (.ref l), some (.ref hl), some (.ref wl), some (.int tn), v5, v6, v7, none] ∧ H' l = some (.lst (nms.map V.str)) ∧
      H' hl = some (.lst [.ref (A 0).p, .ref (A 1).p]) ∧ H' wl = some (.lst [.ref (dw 0), .ref (dw 1)]) ∧ H' ps = some (.lst (ns'.map V.int)) ∧ TwoAt C H' A m dw m ∧ ∀ i, (akeys (m i)).Nodup ∧ ∀ s ∈ akeys (m i), s ∈ nms)
    ⟨0, none, none, none, fun _ => [], by decide, rfl, s8 _ _ elE, s8 _ _ ehl, s8 _ _ ewl, upd_same, TE.same s8, fun i => ⟨.nil, fun s hs => (by cases hs)⟩⟩ (fun i σ H' _ ⟨_, _, _, _, _, _, _, _, _, _, e, _⟩ => SqL.of e) ?_ ?_⟩
  · rintro i x σ HA hi ⟨tn, v5, v6, v7, m, htn, rfl, el', eh', ew', eps, TA, hm⟩
    obtain ⟨c, hc, rfl⟩ : ∃ c, ns'[i]? = some c ∧ x = V.int c := by
      rw [List.getElem?_map] at hi
      cases ez : ns'[i]? with
      | none => rw [ez] at hi; cases hi
      | some z => rw [ez] at hi; exact ⟨z, rfl, (Option.some.inj hi).symm⟩
    refine ⟨_, rfl, _, _, rfl, rfl, ?_⟩
    obtain ⟨tt, htt, ett⟩ : ∃ tt : Nat, tt < 2 ∧ (1 : Int) - (tn : Int) = (tt : Int) := ⟨1 - tn, by omega, by omega⟩
    rw [show ((fun i j : Int => V.int (i - j)) 1 (tn : Int)) = V.int (tt : Int) from congrArg V.int ett]
    obtain ⟨z, hz, ez⟩ := at_modN (nms := nms) (by omega) c
    have zok := hok z hz
    have zn : nameM z = true := zok
    have zl := nameOk_le zok
    refine ⟨_, rfl, _, rfl, _, rfl, l, _, rfl, .inl (SqL.of el'), _, _, rfl, rfl, (by rw [List.length_map]; show (0 : Int) < (nms.length : Int); omega), l, _, _, _, rfl, rfl, SqL.of el', ez, ?_⟩
    have ath : atI [V.ref (A 0).p, V.ref (A 1).p] (tt : Int) = some (.ref (A tt).p) := atI2 htt (fun i => .ref (A i).p) rfl rfl
    have atw : atI [V.ref (dw 0), V.ref (dw 1)] (tt : Int) = some (.ref (dw tt)) := atI2 htt (fun i => .ref (dw i)) rfl rfl
    refine ⟨fun σ H' => ∃ (m : Nat → AL Int), σ = [some (.ref a), some (.ref l), some (.ref hl), some (.ref wl), some (.int tt), some (.int c), some (.str z), v7, none] ∧ H' l = some (.lst (nms.map V.str)) ∧
      H' hl = some (.lst [.ref (A 0).p, .ref (A 1).p]) ∧ H' wl = some (.lst [.ref (dw 0), .ref (dw 1)]) ∧ H' ps = some (.lst (ns'.map V.int)) ∧ TwoAt C H' A m dw m ∧ ∀ i, (akeys (m i)).Nodup ∧ ∀ s ∈ akeys (m i), s ∈ nms, ?_, ?_⟩
    · refine ⟨_, rfl, _, _, rfl, rfl, ⟨by decide, by decide⟩, _, _, rfl, rfl, (by show (0 : Int) < 2; decide), rfl, _, rfl, ?_⟩
      refine ite2 (fun _ => ?_) (fun _ => ⟨m, rfl, el', eh', ew', eps, TA, hm⟩)
      have w0 : 0 ≤ c / 32 % 31 := Int.emod_nonneg _ (by decide)
      have w1 : c / 32 % 31 < 31 := Int.emod_lt_of_pos _ (by decide)
      have at_ := TA.hall tt htt
      obtain ⟨mk, ms⟩ := hm tt
      have ml := kb mk ms
      refine ⟨_, rfl, _, rfl, hl, _, _, _, rfl, rfl, SqL.of eh', ath, (A tt).p, (A tt).dx, _, rfl, at_.ob, hallF_no _ (by decide +kernel) (by decide +kernel) (by decide +kernel) (by decide +kernel) (by decide +kernel), ?_⟩
      refine ⟨_, rfl, _, rfl, _, _, rfl, rfl, ⟨by decide, by decide⟩, _, _, rfl, rfl, (by show (0 : Int) < 31; decide), A tt, W2 A dw, hq (m tt), z, c / 32 % 31, rfl, at_, zl, by show (m tt).length ≤ 1000; omega, fun e => (by rw [zn] at e; cases e), fun _ nb => absurd ⟨w0, by omega⟩ nb, fun _ _ nr => absurd (.inr (.inr (by show (m tt).length + 0 < 10; omega))) nr, fun _ _ _ HB st hb => ?_⟩
      obtain ⟨kn, en, dn⟩ := at_.n
      obtain ⟨kr, er, dr⟩ := at_.r
      have lk : ∀ {b : Addr} {xs : List V}, HA b = some (.lst xs) → HB b = some (.lst xs) := fun e => st _ _ e (ne_of e en (by intro w; cases w)) (ne_of e er (by intro w; cases w))
      have TB := TA.put htt st hb
      refine ⟨rfl, _, rfl, ?_⟩
      refine iteF ?_
      obtain ⟨kw, ekw, dkw⟩ := TB.dict tt htt
      have el2 := lk el'
      have eh2 := lk eh'
      have ew2 := lk ew'
      have ep2 := lk eps
      refine ⟨_, rfl, _, _, rfl, rfl, ⟨by decide, by decide⟩, _, _, rfl, rfl, (by show (0 : Int) < 31; decide), _, rfl, _, rfl, wl, _, _, _, rfl, rfl, SqL.of ew2, atw, _, rfl, dw tt, _, rfl, DPut.k (k := Sum.inr z) ekw (by rw [dkw.len]; exact small1000 (by omega)), ?_⟩
      have TC := TB.set htt (dkw.put (s := z) (v := .int (c / 32 % 31)) (x := c / 32 % 31) rfl)
      have kn2 : ∀ {b : Addr} {xs : List V} {kvs : List (Key × V)}, HB b = some (.lst xs) → (upd HB (dw tt) (.dK kvs)) b = some (.lst xs) := fun e => by rw [upd_ne (ne_of e ekw (by intro w; cases w))]; exact e
      refine ⟨fun i => if i = tt then aput (m tt) z (c / 32 % 31) else m i, rfl, kn2 el2, kn2 eh2, kn2 ew2, kn2 ep2, TC, fun i => ?_⟩
      show (akeys (if i = tt then aput (m tt) z (c / 32 % 31) else m i)).Nodup ∧ ∀ s ∈ akeys (if i = tt then aput (m tt) z (c / 32 % 31) else m i), s ∈ nms
      by_cases ci : i = tt
      · rw [if_pos ci]
        refine ⟨anodup_put mk _ _, fun s hs => ?_⟩
        rcases mem_akeys_put.mp hs with y | y
        · exact ms s y
        · rw [y]; exact hz
      · rw [if_neg ci]; exact hm i
    · rintro σ HB ⟨m', rfl, el2, eh2, ew2, ep2, TB, hm2⟩
      have at_ := TB.hall tt htt
      refine ⟨_, rfl, _, rfl, hl, _, _, _, rfl, rfl, SqL.of eh2, ath, (A tt).p, (A tt).dx, _, rfl, at_.ob, hallF_no _ (by decide +kernel) (by decide +kernel) (by decide +kernel) (by decide +kernel) (by decide +kernel), ?_⟩
      refine ⟨_, rfl, A tt, W2 A dw, hq (m' tt), z, rfl, at_, zl, (fun w => by cases w), fun e => (by rw [zn] at e; cases e), fun _ HC sC => ?_⟩
      have TC := TB.same sC
      obtain ⟨kw, ekw, dkw⟩ := TC.dict tt htt
      refine ⟨_, rfl, _, rfl, ⟨_, rfl, ?_⟩⟩
      refine iteF ⟨_, rfl, _, rfl, _, rfl, wl, _, _, _, rfl, rfl, SqL.of (sC _ _ ew2), atw, dw tt, rfl, .inl ⟨_, .inl ekw⟩, _, rfl, _, DGet.k (k := Sum.inr z) ekw, ?_⟩
      rw [num_of dkw]
      refine ⟨rfl, _, rfl, ?_⟩
      rw [show decide (V.int (numOf (hq (m' tt)).nums z) = V.int (numOf (m' tt) z)) = true from decide_eq_true rfl]
      exact iteF ⟨tt, _, _, _, m', htt, rfl, sC _ _ el2, sC _ _ eh2, sC _ _ ew2, sC _ _ ep2, TC, hm2⟩
  · rintro σ HA ⟨tn, v5, v6, v7, m, htn, rfl, el', eh', ew', eps, TA, hm⟩
    refine ⟨2, rfl, by decide, by decide, ?_⟩
    refine for_range (lo := 0) (n := 2) (fun i σ H' => ∃ (v6 v7 v8 : Option V) (A : Nat → Aw.HA), σ = [some (.ref a), some (.ref l), some (.ref hl), some (.ref wl), some (.int tn), v5, v6, v7, v8] ∧
      H' hl = some (.lst [.ref (A 0).p, .ref (A 1).p]) ∧ H' wl = some (.lst [.ref (dw 0), .ref (dw 1)]) ∧ TwoAt C H' A m dw m) ⟨v6, v7, none, A, rfl, eh', ew', TA⟩ ?_ ?_
    · rintro k σ HB hk ⟨v6', v7', v8', A', rfl, eh2, ew2, TB⟩
      have ath : ∀ {X Y : Aw.HA}, (A' 0).p = X.p → (A' 1).p = Y.p → atI [V.ref X.p, V.ref Y.p] (0 + (k : Int)) = some (.ref (A' k).p) := fun {X Y} h0 h1 => by rw [Int.zero_add]; exact atI2 hk (fun i => .ref (A' i).p) (by rw [h0]) (by rw [h1])
      have atw : atI [V.ref (dw 0), V.ref (dw 1)] (0 + (k : Int)) = some (.ref (dw k)) := by rw [Int.zero_add]; exact atI2 hk (fun i => .ref (dw i)) rfl rfl
      have at_ := TB.hall k hk
      obtain ⟨mk, ms⟩ := hm k
      have ml := kb mk ms
      have no5 : ∀ (B : Aw.HA) (x : Str), ¬ x = "numbers" → ¬ x = "recipes" → ¬ x = "kept" → ¬ x = "untaken" → ¬ x = "points" → (hallF B).lookup x = none := fun B x => hallF_no B
      refine ⟨_, rfl, _, rfl, hl, _, _, _, rfl, rfl, SqL.of eh2, ath rfl rfl, (A' k).p, (A' k).dx, _, rfl, at_.ob, no5 _ _ (by decide +kernel) (by decide +kernel) (by decide +kernel) (by decide +kernel) (by decide +kernel), ?_⟩
      refine ⟨A' k, W2 A' dw, hq (m k), rfl, at_, by show (m k).length ≤ 60; omega, mk, fun p ys HC sC hnp pm pw ep => ?_⟩
      have TC := TB.same sC
      have eh3 := sC _ _ eh2
      have ew3 := sC _ _ ew2
      obtain ⟨kw, ekw, dkw⟩ := TC.dict k hk
      refine ⟨_, rfl, _, _, _, _, true, rfl, .ty _, .base (.dK ep), kit_ty (by decide +kernel), _, rfl, ?_⟩
      refine iteF ?_
      obtain ⟨yd, hyd⟩ : ∃ yd, yd = ys.map fun s => ((Sum.inr s : Key), V.int (numOf (m k) s)) := ⟨_, rfl⟩
      have ep' : HC p = some (.dK yd) := by rw [hyd]; exact ep
      have ynd : ys.Nodup := pm.nodup_iff.mpr mk
      have yl := pm.length_eq
      unfold akeys at yl
      rw [List.length_map] at yl
      have yl' : ys.length ≤ 20 := by
        have : (hq (m k)).nums.length = (m k).length := rfl
        omega
      refine ⟨p, .dK yd, ep', True.intro, fun od => ?_⟩
      refine ⟨_, rfl, p, od, rfl, .inl ⟨yd, upd_same, fun D hD => ?_⟩⟩
      have npD : p ≠ D := ne_of_none upd_same hD
      have hDC : HC D = none := by rw [← hD, upd_ne npD.symm]
      refine lc_it walk_keys (fun i H' => H' p = some (.frz od (.dK yd)) ∧ (∀ b o, HC b = some o → b ≠ p → H' b = some o) ∧ ∃ ts, H' D = some (.lst ts) ∧ LR (PairAt H') ts ((ys.take i).map fun s => (s, numOf (m k) s)))
        ⟨by rw [upd_ne npD]; exact upd_same, fun b o e n => by rw [upd_ne (ne_of_none e hDC), upd_ne n]; exact e, [], upd_same, .nil⟩ (fun i H' _ h => h.1) ?_ ?_
      · rintro i x HD HE' hi ⟨epD, fD, ts, eD, lr⟩ ⟨rfl, kk, v, hkv, rfl⟩
        have hi' : i < ys.length := by rw [hyd, List.length_map] at hi; exact hi
        have hzi : ys[i]? = some ys[i] := List.getElem?_eq_getElem hi'
        rw [hyd, List.getElem?_map, hzi] at hkv
        cases hkv
        refine ⟨rfl, ?_⟩
        refine ⟨_, rfl, _, rfl, _, rfl, p, .int (numOf (m k) ys[i]), rfl, .inl ⟨_, Sum.inr ys[i], .inr ⟨od, epD⟩, rfl, ?_⟩, (by show 2 ≤ sizeLine; decide), fun tp htp => ?_⟩
        · rw [hyd]; exact (val_at (g := fun s => V.int (numOf (m k) s)) (List.getElem_mem hi')).symm
        have s3 := same_new htp (.tup [.str ys[i], .int (numOf (m k) ys[i])])
        have nDt : D ≠ tp := ne_of_none eD htp
        have npt : p ≠ tp := ne_of_none epD htp
        refine ⟨ts, s3 _ _ eD, ?_, by rw [upd_ne npD]; exact s3 _ _ epD, fun b o e n => by rw [upd_ne (ne_of_none e hDC)]; exact s3 _ _ (fD b o e n), _, upd_same, ?_⟩
        · have := lr.len
          rw [List.length_map, List.length_take] at this
          exact small1000 (by omega)
        · have tpk : Tups HE' (upd (upd HE' tp (.tup [.str ys[i], .int (numOf (m k) ys[i])])) D (.lst (ts ++ [.ref tp]))) := fun b xs e => by rw [upd_ne (ne_of e eD (by intro z; cases z))]; exact s3 _ _ e
          rw [take_more hzi, List.map_append]
          exact LR.snoc (lr.imp fun _ _ _ ⟨b, x, y⟩ => ⟨b, x, tpk _ _ y⟩) ⟨tp, rfl, by rw [upd_ne nDt.symm]; exact upd_same⟩
      · rintro HD ⟨epD, fD, ts, eD, lr⟩
        rw [hyd, List.length_map, List.take_length] at lr
        refine ⟨epD, ?_⟩
        have sD : Same HC (upd HD p (.dK yd)) := fun b o e => by
          by_cases c : b = p
          · subst c; rw [upd_same, ← e, ep']
          · rw [upd_ne c]; exact fD b o e c
        have eD2 : (upd HD p (.dK yd)) D = some (.lst ts) := by rw [upd_ne npD.symm]; exact eD
        have lr2 : LR (PairAt (upd HD p (.dK yd))) ts (ys.map fun s => (s, numOf (m k) s)) := lr.imp fun _ _ _ ⟨b, x, y⟩ => ⟨b, x, by rw [upd_ne (ne_of y epD (by intro w; cases w))]; exact y⟩
        generalize upd HD p (.dK yd) = HF at *
        have TF := TC.same sD
        refine ⟨_, rfl, _, rfl, wl, _, _, _, rfl, rfl, SqL.of (sD _ _ ew3), atw, dw k, kw, m k, rfl, sD _ _ ekw, dkw, by omega, mk, fun p2 ys2 ts2 HG sG hn2 pm2 pw2 ep2 lr3 => ?_⟩
        have ey : ys2 = ys := srt_one pw2 pw (pm2.trans pm.symm)
        subst ey
        have okq : ∀ q ∈ (ys2.map fun s => (s, numOf (m k) s)), NameOk q.1 := fun q hq => by
          obtain ⟨s, hs, e⟩ := List.mem_map.mp hq
          rw [← e]; exact hok s (ms s (pm.mem_iff.mp hs))
        refine ⟨_, _, .lst (SqL.of (sG _ _ eD2)) (pairs_data (lr2.imp fun _ _ _ ⟨b, x, y⟩ => ⟨b, x, sG _ _ y⟩)), .lst (SqL.of ep2) (pairs_data lr3), pairs_shaped okq, pairs_shaped okq, _, rfl, ?_⟩
        rw [pairs_eqv okq]
        refine iteF ?_
        have TG := TF.same sG
        have eh4 := sG _ _ (sD _ _ eh3)
        have ew4 := sG _ _ (sD _ _ ew3)
        have ag := TG.hall k hk
        refine ⟨_, rfl, _, rfl, hl, _, _, _, rfl, rfl, SqL.of eh4, ath rfl rfl, (A' k).p, (A' k).dx, _, rfl, ag.ob, no5 _ _ (by decide +kernel) (by decide +kernel) (by decide +kernel) (by decide +kernel) (by decide +kernel), ?_⟩
        refine ⟨A' k, W2 A' dw, hq (m k), rfl, ag, (by show 0 < sizeLine; decide), fun pr u ws HH hnr hnu nru br er lr4 hall => ?_⟩
        have TH2 := TG.runs hk hnu br hall
        obtain ⟨A2, hA2⟩ : ∃ A2 : Nat → Aw.HA, A2 = fun i => if i = k then { A' k with u := u } else A' i := ⟨_, rfl⟩
        rw [← hA2] at TH2
        have pe : ∀ i, (A2 i).p = (A' i).p := fun i => by
          by_cases c : i = k
          · rw [hA2, c]
            show Aw.HA.p (if k = k then { A' k with u := u } else A' k) = (A' k).p
            rw [if_pos rfl]
          · rw [hA2]
            exact congrArg Aw.HA.p (if_neg c)
        have nol : ∀ {b : Addr} {xs : List V}, HG b = some (.lst xs) → HH b = some (.lst xs) := fun e => br _ _ e (ne_of e ag.ob (by intro w; cases w))
        have eh5 := nol eh4
        have ew5 := nol ew4
        have ews : ws = [] := by cases lr4; rfl
        subst ews
        refine ⟨(by show 0 ≤ sizeLine; decide), fun e1 he1 => ?_⟩
        have s11 := same_new he1 (.lst [])
        refine ⟨_, _, .lst (SqL.of (s11 _ _ er)) .nil, .lst (SqL.of upd_same) .nil, rfl, rfl, _, rfl, ?_⟩
        refine iteF ?_
        have TI := TH2.same s11
        have ai := TI.hall k hk
        have eh6 := s11 _ _ eh5
        have ew6 := s11 _ _ ew5
        generalize upd HH e1 (.lst []) = HI at *
        have nI : (A2 k).own (A2 k).p := .inl rfl
        refine ⟨_, rfl, _, rfl, hl, _, _, _, rfl, rfl, SqL.of eh6, ath rfl rfl, (A' k).p, (A2 k).dx, _, rfl, by rw [← pe k]; exact ai.ob, no5 _ _ (by decide +kernel) (by decide +kernel) (by decide +kernel) (by decide +kernel) (by decide +kernel), ?_⟩
        refine ⟨A2 k, W2 A2 dw, hq (m k), by rw [pe k]; rfl, ai, rfl, fun pw' HJ sJ hnw ew' => ?_⟩
        refine fun e2 he2 => ?_
        have s12 := same_new he2 (.dK [])
        refine ⟨pw', e2, [], [], rfl, rfl, s12 _ _ ew', upd_same, rfl, (fun p hp => by cases hp), _, rfl, ?_⟩
        refine iteF ?_
        have TJ := TI.same (sJ.trans s12)
        have aj := TJ.hall k hk
        have eh7 := s12 _ _ (sJ _ _ eh6)
        have ew7 := s12 _ _ (sJ _ _ ew6)
        generalize upd HJ e2 (.dK []) = HK at *
        refine ⟨_, rfl, _, rfl, hl, _, _, _, rfl, rfl, SqL.of eh7, ath rfl rfl, (A' k).p, (A2 k).dx, _, rfl, by rw [← pe k]; exact aj.ob, no5 _ _ (by decide +kernel) (by decide +kernel) (by decide +kernel) (by decide +kernel) (by decide +kernel), ?_⟩
        refine ⟨A2 k, W2 A2 dw, hq (m k), by rw [pe k]; rfl, aj, rfl, fun pg HL sL hng eg => ?_⟩
        refine ⟨(by show 0 ≤ sizeLine; decide), fun e3 he3 => ?_⟩
        have s13 := same_new he3 (.lst [])
        refine ⟨_, _, .lst (SqL.of (s13 _ _ eg)) .nil, .lst (SqL.of upd_same) .nil, rfl, rfl, _, rfl, ?_⟩
        refine iteF ?_
        have TL := TJ.same (sL.trans s13)
        refine ⟨_, _, _, A2, rfl, ?_, s13 _ _ (sL _ _ ew7), TL⟩
        rw [pe 0, pe 1]
        exact s13 _ _ (sL _ _ eh7)
    · rintro σ HB ⟨v6', v7', v8', A', rfl, eh2, ew2, TB⟩
      exact q _
end
end Aw

namespace Aw
open PySem L2
theorem all_mk {l : PySem.W.OpenLaw} {w : World} {K : PySem.W.Frag} {h : Heap} {mg : Str → Option Value} {fa C_Run C_Hall : Addr} (X : K.In h) (G : h.Ns mainGlobals mg) (hfa : mg "law" = some (.ref fa))
    {f_is_name : Addr} {od_is_name an_is_name : Option Addr} {sl_is_name : Array (Option Value)} {oc_is_name kV_is_name dc_is_name pm_is_name cd_is_name ct_is_name : Value}
    {f_Hall_init : Addr} {od_Hall_init an_Hall_init : Option Addr} {sl_Hall_init : Array (Option Value)} {oc_Hall_init kV_Hall_init dc_Hall_init pm_Hall_init cd_Hall_init ct_Hall_init : Value}
    {f_Hall_put : Addr} {od_Hall_put an_Hall_put : Option Addr} {sl_Hall_put : Array (Option Value)} {oc_Hall_put kV_Hall_put dc_Hall_put pm_Hall_put cd_Hall_put ct_Hall_put : Value}
    {f_Hall_check_room : Addr} {od_Hall_check_room an_Hall_check_room : Option Addr} {sl_Hall_check_room : Array (Option Value)} {oc_Hall_check_room kV_Hall_check_room dc_Hall_check_room pm_Hall_check_room cd_Hall_check_room ct_Hall_check_room : Value}
    {f_Hall_ask : Addr} {od_Hall_ask an_Hall_ask : Option Addr} {sl_Hall_ask : Array (Option Value)} {oc_Hall_ask kV_Hall_ask dc_Hall_ask pm_Hall_ask cd_Hall_ask ct_Hall_ask : Value}
    {f_Hall_runs : Addr} {od_Hall_runs an_Hall_runs : Option Addr} {sl_Hall_runs : Array (Option Value)} {oc_Hall_runs kV_Hall_runs dc_Hall_runs pm_Hall_runs cd_Hall_runs ct_Hall_runs : Value}
    {f_Hall_rings : Addr} {od_Hall_rings an_Hall_rings : Option Addr} {sl_Hall_rings : Array (Option Value)} {oc_Hall_rings kV_Hall_rings dc_Hall_rings pm_Hall_rings cd_Hall_rings ct_Hall_rings : Value}
    {f_Hall_wells : Addr} {od_Hall_wells an_Hall_wells : Option Addr} {sl_Hall_wells : Array (Option Value)} {oc_Hall_wells kV_Hall_wells dc_Hall_wells pm_Hall_wells cd_Hall_wells ct_Hall_wells : Value}
    {f_Hall_works : Addr} {od_Hall_works an_Hall_works : Option Addr} {sl_Hall_works : Array (Option Value)} {oc_Hall_works kV_Hall_works dc_Hall_works pm_Hall_works cd_Hall_works ct_Hall_works : Value}
    {f_check_name : Addr} {od_check_name an_check_name : Option Addr} {sl_check_name : Array (Option Value)} {oc_check_name kV_check_name dc_check_name pm_check_name cd_check_name ct_check_name : Value}
    {f_law_cell_at : Addr} {od_law_cell_at an_law_cell_at : Option Addr} {sl_law_cell_at : Array (Option Value)} {oc_law_cell_at kV_law_cell_at dc_law_cell_at pm_law_cell_at cd_law_cell_at ct_law_cell_at : Value}
    {f_law_names : Addr} {od_law_names an_law_names : Option Addr} {sl_law_names : Array (Option Value)} {oc_law_names kV_law_names dc_law_names pm_law_names cd_law_names ct_law_names : Value}
    {f_law_whole : Addr} {od_law_whole an_law_whole : Option Addr} {sl_law_whole : Array (Option Value)} {oc_law_whole kV_law_whole dc_law_whole pm_law_whole cd_law_whole ct_law_whole : Value}
    {f_law_sorted : Addr} {od_law_sorted an_law_sorted : Option Addr} {sl_law_sorted : Array (Option Value)} {oc_law_sorted kV_law_sorted dc_law_sorted pm_law_sorted cd_law_sorted ct_law_sorted : Value}
    {f_law : Addr} {od_law an_law : Option Addr} {sl_law : Array (Option Value)} {oc_law kV_law dc_law pm_law cd_law ct_law : Value}
    {NN : Addr} {NB : Addr} {NF : Addr} {tk_GREATEST : Tok} {tk_MOST_NAMES : Tok} {tk_LONGEST_NAME : Tok} {tk_LETTERS : Tok}
    (a_is_name : PySem.W.nsIn K mainGlobals "is_name" = some (some (.ref f_is_name)))
    (l_is_name : K.lookup f_is_name = some ⟨oc_is_name, od_is_name, .func (PySem.W.fnOf "is_name" "is_name" (defArgs s_is_name) (defBody s_is_name) (defScope s_is_name) .none kV_is_name dc_is_name pm_is_name an_is_name cd_is_name ct_is_name), sl_is_name⟩) (c_is_name : PySem.W.codeIn K cd_is_name "is_name" = true) (k_is_name : PySem.W.keepIn K (.ref f_is_name) = true)
    (a_Hall_init : PySem.W.findIn K (.ref C_Hall) "__init__" = some (some (.ref f_Hall_init))) (i_Hall_init : PySem.W.isFn K (.ref f_Hall_init) = true)
    (l_Hall_init : K.lookup f_Hall_init = some ⟨oc_Hall_init, od_Hall_init, .func (PySem.W.fnOf "__init__" "Hall.__init__" (defArgs s_Hall_init) (defBody s_Hall_init) (defScope s_Hall_init) .none kV_Hall_init dc_Hall_init pm_Hall_init an_Hall_init cd_Hall_init ct_Hall_init), sl_Hall_init⟩) (c_Hall_init : PySem.W.codeIn K cd_Hall_init "Hall.__init__" = true) (k_Hall_init : PySem.W.keepIn K (.ref f_Hall_init) = true)
    (a_Hall_put : PySem.W.findIn K (.ref C_Hall) "put" = some (some (.ref f_Hall_put))) (i_Hall_put : PySem.W.isFn K (.ref f_Hall_put) = true)
    (l_Hall_put : K.lookup f_Hall_put = some ⟨oc_Hall_put, od_Hall_put, .func (PySem.W.fnOf "put" "Hall.put" (defArgs s_Hall_put) (defBody s_Hall_put) (defScope s_Hall_put) .none kV_Hall_put dc_Hall_put pm_Hall_put an_Hall_put cd_Hall_put ct_Hall_put), sl_Hall_put⟩) (c_Hall_put : PySem.W.codeIn K cd_Hall_put "Hall.put" = true) (k_Hall_put : PySem.W.keepIn K (.ref f_Hall_put) = true)
    (a_Hall_check_room : PySem.W.findIn K (.ref C_Hall) "check_room" = some (some (.ref f_Hall_check_room))) (i_Hall_check_room : PySem.W.isFn K (.ref f_Hall_check_room) = true)
    (l_Hall_check_room : K.lookup f_Hall_check_room = some ⟨oc_Hall_check_room, od_Hall_check_room, .func (PySem.W.fnOf "check_room" "Hall.check_room" (defArgs s_Hall_check_room) (defBody s_Hall_check_room) (defScope s_Hall_check_room) .none kV_Hall_check_room dc_Hall_check_room pm_Hall_check_room an_Hall_check_room cd_Hall_check_room ct_Hall_check_room), sl_Hall_check_room⟩) (c_Hall_check_room : PySem.W.codeIn K cd_Hall_check_room "Hall.check_room" = true) (k_Hall_check_room : PySem.W.keepIn K (.ref f_Hall_check_room) = true)
    (a_Hall_ask : PySem.W.findIn K (.ref C_Hall) "ask" = some (some (.ref f_Hall_ask))) (i_Hall_ask : PySem.W.isFn K (.ref f_Hall_ask) = true)
    (l_Hall_ask : K.lookup f_Hall_ask = some ⟨oc_Hall_ask, od_Hall_ask, .func (PySem.W.fnOf "ask" "Hall.ask" (defArgs s_Hall_ask) (defBody s_Hall_ask) (defScope s_Hall_ask) .none kV_Hall_ask dc_Hall_ask pm_Hall_ask an_Hall_ask cd_Hall_ask ct_Hall_ask), sl_Hall_ask⟩) (c_Hall_ask : PySem.W.codeIn K cd_Hall_ask "Hall.ask" = true) (k_Hall_ask : PySem.W.keepIn K (.ref f_Hall_ask) = true)
    (a_Hall_runs : PySem.W.findIn K (.ref C_Hall) "runs" = some (some (.ref f_Hall_runs))) (i_Hall_runs : PySem.W.isFn K (.ref f_Hall_runs) = true)
    (l_Hall_runs : K.lookup f_Hall_runs = some ⟨oc_Hall_runs, od_Hall_runs, .func (PySem.W.fnOf "runs" "Hall.runs" (defArgs s_Hall_runs) (defBody s_Hall_runs) (defScope s_Hall_runs) .none kV_Hall_runs dc_Hall_runs pm_Hall_runs an_Hall_runs cd_Hall_runs ct_Hall_runs), sl_Hall_runs⟩) (c_Hall_runs : PySem.W.codeIn K cd_Hall_runs "Hall.runs" = true) (k_Hall_runs : PySem.W.keepIn K (.ref f_Hall_runs) = true)
    (a_Hall_rings : PySem.W.findIn K (.ref C_Hall) "rings" = some (some (.ref f_Hall_rings))) (i_Hall_rings : PySem.W.isFn K (.ref f_Hall_rings) = true)
    (l_Hall_rings : K.lookup f_Hall_rings = some ⟨oc_Hall_rings, od_Hall_rings, .func (PySem.W.fnOf "rings" "Hall.rings" (defArgs s_Hall_rings) (defBody s_Hall_rings) (defScope s_Hall_rings) .none kV_Hall_rings dc_Hall_rings pm_Hall_rings an_Hall_rings cd_Hall_rings ct_Hall_rings), sl_Hall_rings⟩) (c_Hall_rings : PySem.W.codeIn K cd_Hall_rings "Hall.rings" = true) (k_Hall_rings : PySem.W.keepIn K (.ref f_Hall_rings) = true)
    (a_Hall_wells : PySem.W.findIn K (.ref C_Hall) "wells" = some (some (.ref f_Hall_wells))) (i_Hall_wells : PySem.W.isFn K (.ref f_Hall_wells) = true)
    (l_Hall_wells : K.lookup f_Hall_wells = some ⟨oc_Hall_wells, od_Hall_wells, .func (PySem.W.fnOf "wells" "Hall.wells" (defArgs s_Hall_wells) (defBody s_Hall_wells) (defScope s_Hall_wells) .none kV_Hall_wells dc_Hall_wells pm_Hall_wells an_Hall_wells cd_Hall_wells ct_Hall_wells), sl_Hall_wells⟩) (c_Hall_wells : PySem.W.codeIn K cd_Hall_wells "Hall.wells" = true) (k_Hall_wells : PySem.W.keepIn K (.ref f_Hall_wells) = true)
    (a_Hall_works : PySem.W.findIn K (.ref C_Hall) "works" = some (some (.ref f_Hall_works))) (i_Hall_works : PySem.W.isFn K (.ref f_Hall_works) = true)
    (l_Hall_works : K.lookup f_Hall_works = some ⟨oc_Hall_works, od_Hall_works, .func (PySem.W.fnOf "works" "Hall.works" (defArgs s_Hall_works) (defBody s_Hall_works) (defScope s_Hall_works) .none kV_Hall_works dc_Hall_works pm_Hall_works an_Hall_works cd_Hall_works ct_Hall_works), sl_Hall_works⟩) (c_Hall_works : PySem.W.codeIn K cd_Hall_works "Hall.works" = true) (k_Hall_works : PySem.W.keepIn K (.ref f_Hall_works) = true)
    (a_check_name : PySem.W.nsIn K mainGlobals "check_name" = some (some (.ref f_check_name)))
    (l_check_name : K.lookup f_check_name = some ⟨oc_check_name, od_check_name, .func (PySem.W.fnOf "check_name" "check_name" (defArgs s_check_name) (defBody s_check_name) (defScope s_check_name) .none kV_check_name dc_check_name pm_check_name an_check_name cd_check_name ct_check_name), sl_check_name⟩) (c_check_name : PySem.W.codeIn K cd_check_name "check_name" = true) (k_check_name : PySem.W.keepIn K (.ref f_check_name) = true)
    (a_law_cell_at : PySem.W.nsIn K mainGlobals "_law_cell_at" = some (some (.ref f_law_cell_at)))
    (l_law_cell_at : K.lookup f_law_cell_at = some ⟨oc_law_cell_at, od_law_cell_at, .func (PySem.W.fnOf "_law_cell_at" "_law_cell_at" (defArgs s_law_cell_at) (defBody s_law_cell_at) (defScope s_law_cell_at) .none kV_law_cell_at dc_law_cell_at pm_law_cell_at an_law_cell_at cd_law_cell_at ct_law_cell_at), sl_law_cell_at⟩) (c_law_cell_at : PySem.W.codeIn K cd_law_cell_at "_law_cell_at" = true) (k_law_cell_at : PySem.W.keepIn K (.ref f_law_cell_at) = true)
    (a_law_names : PySem.W.nsIn K mainGlobals "_law_names" = some (some (.ref f_law_names)))
    (l_law_names : K.lookup f_law_names = some ⟨oc_law_names, od_law_names, .func (PySem.W.fnOf "_law_names" "_law_names" (defArgs s_law_names) (defBody s_law_names) (defScope s_law_names) .none kV_law_names dc_law_names pm_law_names an_law_names cd_law_names ct_law_names), sl_law_names⟩) (c_law_names : PySem.W.codeIn K cd_law_names "_law_names" = true) (k_law_names : PySem.W.keepIn K (.ref f_law_names) = true)
    (a_law_whole : PySem.W.nsIn K mainGlobals "_law_whole" = some (some (.ref f_law_whole)))
    (l_law_whole : K.lookup f_law_whole = some ⟨oc_law_whole, od_law_whole, .func (PySem.W.fnOf "_law_whole" "_law_whole" (defArgs s_law_whole) (defBody s_law_whole) (defScope s_law_whole) .none kV_law_whole dc_law_whole pm_law_whole an_law_whole cd_law_whole ct_law_whole), sl_law_whole⟩) (c_law_whole : PySem.W.codeIn K cd_law_whole "_law_whole" = true) (k_law_whole : PySem.W.keepIn K (.ref f_law_whole) = true)
    (a_law_sorted : PySem.W.nsIn K mainGlobals "_law_sorted" = some (some (.ref f_law_sorted)))
    (l_law_sorted : K.lookup f_law_sorted = some ⟨oc_law_sorted, od_law_sorted, .func (PySem.W.fnOf "_law_sorted" "_law_sorted" (defArgs s_law_sorted) (defBody s_law_sorted) (defScope s_law_sorted) .none kV_law_sorted dc_law_sorted pm_law_sorted an_law_sorted cd_law_sorted ct_law_sorted), sl_law_sorted⟩) (c_law_sorted : PySem.W.codeIn K cd_law_sorted "_law_sorted" = true) (k_law_sorted : PySem.W.keepIn K (.ref f_law_sorted) = true)
    (a_law : PySem.W.nsIn K mainGlobals "law" = some (some (.ref f_law)))
    (l_law : K.lookup f_law = some ⟨oc_law, od_law, .func (PySem.W.fnOf "law" "law" (defArgs s_law) (defBody s_law) (defScope s_law) .none kV_law dc_law pm_law an_law cd_law ct_law), sl_law⟩) (c_law : PySem.W.codeIn K cd_law "law" = true) (k_law : PySem.W.keepIn K (.ref f_law) = true)
    (aC_Hall : PySem.W.nsIn K mainGlobals "Hall" = some (some (.ref C_Hall)))
    (pg_Hall : PySem.W.plainGet K C_Hall Str.empty = true)
    (hd_Hall : PySem.W.hasDictIn K C_Hall = true)
    (po_Hall : PySem.W.plainOver K C_Hall = true)
    (sa_Hall : PySem.W.findIn K (.ref C_Hall) "__setattr__" = some (some (.builtin "object.__setattr__")))
    (mk_Hall : PySem.W.makesIn K C_Hall = true)
    (kc_Hall : PySem.W.keepIn K (.ref C_Hall) = true)
    (n_Hall_numbers : PySem.W.findIn K (.ref C_Hall) "numbers" = some none)
    (n_Hall_recipes : PySem.W.findIn K (.ref C_Hall) "recipes" = some none)
    (n_Hall_kept : PySem.W.findIn K (.ref C_Hall) "kept" = some none)
    (n_Hall_untaken : PySem.W.findIn K (.ref C_Hall) "untaken" = some none)
    (n_Hall_points : PySem.W.findIn K (.ref C_Hall) "points" = some none)
    (aC_Run : PySem.W.nsIn K mainGlobals "Run" = some (some (.ref C_Run)))
    (pg_Run : PySem.W.plainGet K C_Run Str.empty = true)
    (hd_Run : PySem.W.hasDictIn K C_Run = true)
    (po_Run : PySem.W.plainOver K C_Run = true)
    (sa_Run : PySem.W.findIn K (.ref C_Run) "__setattr__" = some (some (.builtin "object.__setattr__")))
    (mk_Run : PySem.W.makesIn K C_Run = true)
    (kc_Run : PySem.W.keepIn K (.ref C_Run) = true)
    (n_Run_name : PySem.W.findIn K (.ref C_Run) "name" = some none)
    (n_Run_reads : PySem.W.findIn K (.ref C_Run) "reads" = some none)
    (n_Run_answer : PySem.W.findIn K (.ref C_Run) "answer" = some none)
    (aX_NoName : PySem.W.nsIn K mainGlobals "NoName" = some (some (.ref NN)))
    (xX_NoName : PySem.W.excIn K NN [.type "ValueError", .type "Exception", .type "BaseException", .type "object"] "ValueError.__new__" = true)
    (kX_NoName : PySem.W.keepIn K (.ref NN) = true)
    (bX_NoName : PySem.W.subIn K (.ref NN) (.type "BaseException") = some true)
    (tX_NoName : PySem.W.typeIn K (.ref NN) = some (.type "type"))
    (aX_NoNumber : PySem.W.nsIn K mainGlobals "NoNumber" = some (some (.ref NB)))
    (xX_NoNumber : PySem.W.excIn K NB [.type "ValueError", .type "Exception", .type "BaseException", .type "object"] "ValueError.__new__" = true)
    (kX_NoNumber : PySem.W.keepIn K (.ref NB) = true)
    (bX_NoNumber : PySem.W.subIn K (.ref NB) (.type "BaseException") = some true)
    (tX_NoNumber : PySem.W.typeIn K (.ref NB) = some (.type "type"))
    (aX_Full : PySem.W.nsIn K mainGlobals "Full" = some (some (.ref NF)))
    (xX_Full : PySem.W.excIn K NF [.type "ValueError", .type "Exception", .type "BaseException", .type "object"] "ValueError.__new__" = true)
    (kX_Full : PySem.W.keepIn K (.ref NF) = true)
    (bX_Full : PySem.W.subIn K (.ref NF) (.type "BaseException") = some true)
    (tX_Full : PySem.W.typeIn K (.ref NF) = some (.type "type"))
    (z_len : PySem.W.nsIn K mainGlobals "len" = some none)
    (z_int : PySem.W.nsIn K mainGlobals "int" = some none)
    (z_range : PySem.W.nsIn K mainGlobals "range" = some none)
    (z_str : PySem.W.nsIn K mainGlobals "str" = some none)
    (z_list : PySem.W.nsIn K mainGlobals "list" = some none)
    (z_sorted : PySem.W.nsIn K mainGlobals "sorted" = some none)
    (z_isinstance : PySem.W.nsIn K mainGlobals "isinstance" = some none)
    (z_dict : PySem.W.nsIn K mainGlobals "dict" = some none)
    (z_all : PySem.W.nsIn K mainGlobals "all" = some none)
    (z_bool : PySem.W.nsIn K mainGlobals "bool" = some none)
    (g_GREATEST : PySem.W.nsIn K mainGlobals "GREATEST" = some (some (.int 30 tk_GREATEST)))
    (g_MOST_NAMES : PySem.W.nsIn K mainGlobals "MOST_NAMES" = some (some (.int 10 tk_MOST_NAMES)))
    (g_LONGEST_NAME : PySem.W.nsIn K mainGlobals "LONGEST_NAME" = some (some (.int 6 tk_LONGEST_NAME)))
    (g_LETTERS : PySem.W.nsIn K mainGlobals "LETTERS" = some (some (.str "abcdefghijklmnopqrstuvwxyz" tk_LETTERS)))
    : ∃ fd : FuncData, (∀ (s : Shared) (v : Value), BindsTo s fd ⟨[v], []⟩ [("_law_script", v)]) ∧ ∀ base : Heap, K.In base → base.Ns mainGlobals mg → FnOk l.prog w K mg base CX0 4 fa fd ["_law_script"] (spLaw K) := by
  have e := hfa.symm.trans (PySem.W.mg_of X G a_law)
  cases e
  have F_is_name := fun_mk (st := s_is_name) l_is_name c_is_name k_is_name
  have b_is_name := F_is_name.binds (ps := ["text"]) fun _ _ _ _ _ _ us hl => match us, hl with | [_], _ => rfl
  have F_Hall_init := fun_mk (st := s_Hall_init) l_Hall_init c_Hall_init k_Hall_init
  have b_Hall_init := F_Hall_init.binds (ps := ["self"]) fun _ _ _ _ _ _ us hl => match us, hl with | [_], _ => rfl
  have F_Hall_put := fun_mk (st := s_Hall_put) l_Hall_put c_Hall_put k_Hall_put
  have b_Hall_put := F_Hall_put.binds (ps := ["self", "name", "number"]) fun _ _ _ _ _ _ us hl => match us, hl with | [_, _, _], _ => rfl
  have F_Hall_check_room := fun_mk (st := s_Hall_check_room) l_Hall_check_room c_Hall_check_room k_Hall_check_room
  have b_Hall_check_room := F_Hall_check_room.binds (ps := ["self", "name"]) fun _ _ _ _ _ _ us hl => match us, hl with | [_, _], _ => rfl
  have F_Hall_ask := fun_mk (st := s_Hall_ask) l_Hall_ask c_Hall_ask k_Hall_ask
  have b_Hall_ask := F_Hall_ask.binds (ps := ["self", "name"]) fun _ _ _ _ _ _ us hl => match us, hl with | [_, _], _ => rfl
  have F_Hall_runs := fun_mk (st := s_Hall_runs) l_Hall_runs c_Hall_runs k_Hall_runs
  have b_Hall_runs := F_Hall_runs.binds (ps := ["self"]) fun _ _ _ _ _ _ us hl => match us, hl with | [_], _ => rfl
  have F_Hall_rings := fun_mk (st := s_Hall_rings) l_Hall_rings c_Hall_rings k_Hall_rings
  have b_Hall_rings := F_Hall_rings.binds (ps := ["self"]) fun _ _ _ _ _ _ us hl => match us, hl with | [_], _ => rfl
  have F_Hall_wells := fun_mk (st := s_Hall_wells) l_Hall_wells c_Hall_wells k_Hall_wells
  have b_Hall_wells := F_Hall_wells.binds (ps := ["self"]) fun _ _ _ _ _ _ us hl => match us, hl with | [_], _ => rfl
  have F_Hall_works := fun_mk (st := s_Hall_works) l_Hall_works c_Hall_works k_Hall_works
  have b_Hall_works := F_Hall_works.binds (ps := ["self"]) fun _ _ _ _ _ _ us hl => match us, hl with | [_], _ => rfl
  have F_check_name := fun_mk (st := s_check_name) l_check_name c_check_name k_check_name
  have b_check_name := F_check_name.binds (ps := ["text"]) fun _ _ _ _ _ _ us hl => match us, hl with | [_], _ => rfl
  have F_law_cell_at := fun_mk (st := s_law_cell_at) l_law_cell_at c_law_cell_at k_law_cell_at
  have b_law_cell_at := F_law_cell_at.binds (ps := ["_law_script", "_law_k"]) fun _ _ _ _ _ _ us hl => match us, hl with | [_, _], _ => rfl
  have F_law_names := fun_mk (st := s_law_names) l_law_names c_law_names k_law_names
  have b_law_names := F_law_names.binds (ps := ["_law_cell", "_law_many"]) fun _ _ _ _ _ _ us hl => match us, hl with | [_, _], _ => rfl
  have F_law_whole := fun_mk (st := s_law_whole) l_law_whole c_law_whole k_law_whole
  have b_law_whole := F_law_whole.binds (ps := ["_law_found"]) fun _ _ _ _ _ _ us hl => match us, hl with | [_], _ => rfl
  have F_law_sorted := fun_mk (st := s_law_sorted) l_law_sorted c_law_sorted k_law_sorted
  have b_law_sorted := F_law_sorted.binds (ps := ["_law_wells"]) fun _ _ _ _ _ _ us hl => match us, hl with | [_], _ => rfl
  have F_law := fun_mk (st := s_law) l_law c_law k_law
  have b_law := F_law.binds (ps := ["_law_script"]) fun _ _ _ _ _ _ us hl => match us, hl with | [_], _ => rfl
  have TL : TxtL K mg := ⟨PySem.W.mg_none_of X G z_len, PySem.W.mg_none_of X G z_int, PySem.W.mg_none_of X G z_range, PySem.W.mg_none_of X G z_str⟩
  have T10 : TxtK10 mg := ⟨PySem.W.mg_none_of X G z_len, PySem.W.mg_none_of X G z_isinstance, PySem.W.mg_none_of X G z_dict, PySem.W.mg_none_of X G z_range⟩
  have TH : TxtH K mg ⟨C_Hall, C_Run, C_Run⟩ := ⟨⟨pg_Hall, hd_Hall, po_Hall, sa_Hall⟩, n_Hall_numbers, n_Hall_recipes, n_Hall_kept, n_Hall_untaken, n_Hall_points, PySem.W.mg_none_of X G z_len, ⟨_, PySem.W.mg_of X G g_GREATEST⟩, ⟨_, PySem.W.mg_of X G g_MOST_NAMES⟩⟩
  have TR : TxtR K ⟨C_Hall, C_Run, C_Run⟩ := ⟨⟨pg_Run, hd_Run, po_Run, sa_Run⟩, n_Run_name, n_Run_reads, n_Run_answer⟩
  have TI : TxtI mg := ⟨PySem.W.mg_none_of X G z_len, PySem.W.mg_none_of X G z_all, ⟨_, PySem.W.mg_of X G g_LETTERS⟩, ⟨_, PySem.W.mg_of X G g_LONGEST_NAME⟩⟩
  have XN : Exc1 K mg "NoName" NN := ⟨xX_NoName, PySem.W.mg_of X G aX_NoName, kX_NoName, bX_NoName, tX_NoName⟩
  have XB : Exc1 K mg "NoNumber" NB := ⟨xX_NoNumber, PySem.W.mg_of X G aX_NoNumber, kX_NoNumber, bX_NoNumber, tX_NoNumber⟩
  have XF : Exc1 K mg "Full" NF := ⟨xX_Full, PySem.W.mg_of X G aX_Full, kX_Full, bX_Full, tX_Full⟩
  refine ⟨PySem.W.fnOf "law" "law" (defArgs s_law) (defBody s_law) (defScope s_law) .none kV_law dc_law pm_law an_law cd_law ct_law, fun s v => .of_eq rfl, fun base _ _ => ?_⟩
  have GI : FnOk l.prog w K mg base CX0 1 f_Hall_init _ ["self"] (spHInit ⟨C_Hall, C_Run, C_Run⟩) := ok_Hinit F_Hall_init TH
  have Gn : FnOk l.prog w K mg base CX0 1 f_is_name _ ["text"] spName := ok_isname F_is_name TI
  have Gc : FnOk l.prog w K mg base (L2.CX l.prog w) 2 f_check_name _ ["text"] (spCheck NN) := ok_check F_check_name XN Gn b_is_name k_is_name (PySem.W.mg_of X G a_is_name)
  have Gr : FnOk l.prog w K mg base (L2.CX l.prog w) 1 f_Hall_check_room _ ["self", "name"] (spRoom ⟨C_Hall, C_Run, C_Run⟩ NF) := ok_room F_Hall_check_room TH XF
  exact ok_law F_law T10 TH ⟨mk_Hall, a_Hall_init, i_Hall_init, kc_Hall⟩ (PySem.W.mg_of X G aC_Hall) GI b_Hall_init ⟨ok_cell F_law_cell_at TL, b_law_cell_at, k_law_cell_at, PySem.W.mg_of X G a_law_cell_at⟩ ⟨ok_names F_law_names TL, b_law_names, k_law_names, PySem.W.mg_of X G a_law_names⟩
    ⟨ok_whole F_law_whole (PySem.W.mg_none_of X G z_isinstance) (PySem.W.mg_none_of X G z_int) (PySem.W.mg_none_of X G z_bool), b_law_whole, k_law_whole, PySem.W.mg_of X G a_law_whole⟩ ⟨ok_sorted F_law_sorted (PySem.W.mg_none_of X G z_sorted) (PySem.W.mg_none_of X G z_list), b_law_sorted, k_law_sorted, PySem.W.mg_of X G a_law_sorted⟩
    ⟨ok_put F_Hall_put TH XB Gc b_check_name k_check_name (PySem.W.mg_of X G a_check_name) Gr b_Hall_check_room ⟨a_Hall_check_room, i_Hall_check_room, k_Hall_check_room⟩, b_Hall_put, ⟨a_Hall_put, i_Hall_put, k_Hall_put⟩⟩
    ⟨ok_askw F_Hall_ask TH Gc b_check_name k_check_name (PySem.W.mg_of X G a_check_name), b_Hall_ask, ⟨a_Hall_ask, i_Hall_ask, k_Hall_ask⟩⟩ ⟨ok_wells F_Hall_wells TH (PySem.W.mg_none_of X G z_sorted), b_Hall_wells, ⟨a_Hall_wells, i_Hall_wells, k_Hall_wells⟩⟩
    ⟨ok_runs F_Hall_runs TH TR (PySem.W.mg_none_of X G z_list), b_Hall_runs, ⟨a_Hall_runs, i_Hall_runs, k_Hall_runs⟩⟩ ⟨ok_works0 F_Hall_works TH (PySem.W.mg_none_of X G z_sorted), b_Hall_works, ⟨a_Hall_works, i_Hall_works, k_Hall_works⟩⟩ ⟨ok_rings0 F_Hall_rings TH (PySem.W.mg_none_of X G z_sorted), b_Hall_rings, ⟨a_Hall_rings, i_Hall_rings, k_Hall_rings⟩⟩
theorem walk {l : PySem.W.OpenLaw} {q : Program} {loose : List Str} {XP : (Str → Option Value) → Heap → Prop} {YP : World → Heap → Prop} {d : DefRec} {K : Params → PySem.W.Frag} (hn : l.most = some 63) (hdf : d.params.defaults = [])
    (hY : ∀ (w : World) (h : Heap), YP w h → (K w.params).In h)
    (F : ∀ (w : World) (mg : Str → Option Value) (fa : Addr) (h : Heap), (K w.params).In h → h.Ns mainGlobals mg → mg d.name = some (.ref fa) →
      ∃ fd : FuncData, (∀ (s : Shared) (u : Value), BindsTo s fd ⟨[u], []⟩ [("_law_script", u)]) ∧ ∀ base : Heap, (K w.params).In base → base.Ns mainGlobals mg → FnOk l.prog w (K w.params) mg base CX0 4 fa fd ["_law_script"] (spLaw (K w.params))) :
    PySem.W.WalkO q loose XP YP l.row.toRowW d [] (fun f vs => PySem.call f vs) :=
  L2.walk_of (n := 63) (k := 4) (x := "_law_script") (CX := fun _ => CX0) (sp := fun w => spLaw (K w.params)) hn (by decide) hdf ⟨rfl, by decide, by decide⟩ hY F (fun _ _ a ns hl _ hS => ⟨a, ns, rfl, hS, hl, fun _ => rfl⟩) fun _ _ _ _ _ z => z
end Aw
open PySem PySem.W PyProof.Rows
set_option maxRecDepth 100000 in
set_option maxHeartbeats 0 in
theorem PySem.Challenge.cw_anewhall_k10_wells_and_noughts_holds : PySem.Challenge.rw_anewhall_k10_wells_and_noughts.Holds := by
  w_on; o_law; k_head; (case hw => w_witness2)
  k_fill
  refine Aw.walk (l := PySem.Challenge.rw_anewhall_k10_wells_and_noughts) rfl rfl (fun w h Y => PySem.W.km_in_of Y) ?F
  case F =>
    intro w mg fa h KX G hmg
    refine' Aw.all_mk KX G hmg ?a_is_name ?l_is_name ?c_is_name ?k_is_name ?a_Hall_init ?i_Hall_init ?l_Hall_init ?c_Hall_init ?k_Hall_init ?a_Hall_put ?i_Hall_put ?l_Hall_put ?c_Hall_put ?k_Hall_put ?a_Hall_check_room ?i_Hall_check_room ?l_Hall_check_room ?c_Hall_check_room ?k_Hall_check_room ?a_Hall_ask ?i_Hall_ask ?l_Hall_ask ?c_Hall_ask ?k_Hall_ask ?a_Hall_runs ?i_Hall_runs ?l_Hall_runs ?c_Hall_runs ?k_Hall_runs ?a_Hall_rings ?i_Hall_rings ?l_Hall_rings ?c_Hall_rings ?k_Hall_rings ?a_Hall_wells ?i_Hall_wells ?l_Hall_wells ?c_Hall_wells ?k_Hall_wells ?a_Hall_works ?i_Hall_works ?l_Hall_works ?c_Hall_works ?k_Hall_works ?a_check_name ?l_check_name ?c_check_name ?k_check_name ?a_law_cell_at ?l_law_cell_at ?c_law_cell_at ?k_law_cell_at ?a_law_names ?l_law_names ?c_law_names ?k_law_names ?a_law_whole ?l_law_whole ?c_law_whole ?k_law_whole ?a_law_sorted ?l_law_sorted ?c_law_sorted ?k_law_sorted ?a_law ?l_law ?c_law ?k_law ?aC_Hall ?pg_Hall ?hd_Hall ?po_Hall ?sa_Hall ?mk_Hall ?kc_Hall ?n_Hall_numbers ?n_Hall_recipes ?n_Hall_kept ?n_Hall_untaken ?n_Hall_points ?aC_Run ?pg_Run ?hd_Run ?po_Run ?sa_Run ?mk_Run ?kc_Run ?n_Run_name ?n_Run_reads ?n_Run_answer ?aX_NoName ?xX_NoName ?kX_NoName ?bX_NoName ?tX_NoName ?aX_NoNumber ?xX_NoNumber ?kX_NoNumber ?bX_NoNumber ?tX_NoNumber ?aX_Full ?xX_Full ?kX_Full ?bX_Full ?tX_Full ?z_len ?z_int ?z_range ?z_str ?z_list ?z_sorted ?z_isinstance ?z_dict ?z_all ?z_bool ?g_GREATEST ?g_MOST_NAMES ?g_LONGEST_NAME ?g_LETTERS
    (case aC_Hall => k_is)
    (case pg_Hall => k_is)
    (case hd_Hall => k_is)
    (case po_Hall => k_is)
    (case sa_Hall => k_is)
    (case mk_Hall => k_is)
    (case kc_Hall => k_is)
    (case n_Hall_numbers => k_is)
    (case n_Hall_recipes => k_is)
    (case n_Hall_kept => k_is)
    (case n_Hall_untaken => k_is)
    (case n_Hall_points => k_is)
    (case aC_Run => k_is)
    (case pg_Run => k_is)
    (case hd_Run => k_is)
    (case po_Run => k_is)
    (case sa_Run => k_is)
    (case mk_Run => k_is)
    (case kc_Run => k_is)
    (case n_Run_name => k_is)
    (case n_Run_reads => k_is)
    (case n_Run_answer => k_is)
    (case aX_NoName => k_is)
    (case xX_NoName => k_exc)
    (case kX_NoName => k_is)
    (case bX_NoName => k_is)
    (case tX_NoName => k_is)
    (case aX_NoNumber => k_is)
    (case xX_NoNumber => k_exc)
    (case kX_NoNumber => k_is)
    (case bX_NoNumber => k_is)
    (case tX_NoNumber => k_is)
    (case aX_Full => k_is)
    (case xX_Full => k_exc)
    (case kX_Full => k_is)
    (case bX_Full => k_is)
    (case tX_Full => k_is)
    (case z_len => k_is)
    (case z_int => k_is)
    (case z_range => k_is)
    (case z_str => k_is)
    (case z_list => k_is)
    (case z_sorted => k_is)
    (case z_isinstance => k_is)
    (case z_dict => k_is)
    (case z_all => k_is)
    (case z_bool => k_is)
    (case g_GREATEST => k_is)
    (case g_MOST_NAMES => k_is)
    (case g_LONGEST_NAME => k_is)
    (case g_LETTERS => k_is)
    (case a_is_name => k_is)
    (case l_is_name => k_is)
    (case c_is_name => k_is)
    (case k_is_name => k_is)
    (case a_Hall_init => k_is)
    (case i_Hall_init => k_is)
    (case l_Hall_init => k_is)
    (case c_Hall_init => k_is)
    (case k_Hall_init => k_is)
    (case a_Hall_put => k_is)
    (case i_Hall_put => k_is)
    (case l_Hall_put => k_is)
    (case c_Hall_put => k_is)
    (case k_Hall_put => k_is)
    (case a_Hall_check_room => k_is)
    (case i_Hall_check_room => k_is)
    (case l_Hall_check_room => k_is)
    (case c_Hall_check_room => k_is)
    (case k_Hall_check_room => k_is)
    (case a_Hall_ask => k_is)
    (case i_Hall_ask => k_is)
    (case l_Hall_ask => k_is)
    (case c_Hall_ask => k_is)
    (case k_Hall_ask => k_is)
    (case a_Hall_runs => k_is)
    (case i_Hall_runs => k_is)
    (case l_Hall_runs => k_is)
    (case c_Hall_runs => k_is)
    (case k_Hall_runs => k_is)
    (case a_Hall_rings => k_is)
    (case i_Hall_rings => k_is)
    (case l_Hall_rings => k_is)
    (case c_Hall_rings => k_is)
    (case k_Hall_rings => k_is)
    (case a_Hall_wells => k_is)
    (case i_Hall_wells => k_is)
    (case l_Hall_wells => k_is)
    (case c_Hall_wells => k_is)
    (case k_Hall_wells => k_is)
    (case a_Hall_works => k_is)
    (case i_Hall_works => k_is)
    (case l_Hall_works => k_is)
    (case c_Hall_works => k_is)
    (case k_Hall_works => k_is)
    (case a_check_name => k_is)
    (case l_check_name => k_is)
    (case c_check_name => k_is)
    (case k_check_name => k_is)
    (case a_law_cell_at => k_is)
    (case l_law_cell_at => k_is)
    (case c_law_cell_at => k_is)
    (case k_law_cell_at => k_is)
    (case a_law_names => k_is)
    (case l_law_names => k_is)
    (case c_law_names => k_is)
    (case k_law_names => k_is)
    (case a_law_whole => k_is)
    (case l_law_whole => k_is)
    (case c_law_whole => k_is)
    (case k_law_whole => k_is)
    (case a_law_sorted => k_is)
    (case l_law_sorted => k_is)
    (case c_law_sorted => k_is)
    (case k_law_sorted => k_is)
    (case a_law => k_is)
    (case l_law => k_is)
    (case c_law => k_is)
    (case k_law => k_is)

