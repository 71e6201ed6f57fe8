import PyProof.Rows.All
import Wide.All
import OpenK.AllK
import Wide.FinOn
import HandS.ForMost
import HandS.Exc
import HandS.TryOnly
import HandS.ExcOwn
import HandS.WordsExc
import HandS.Wide
import HandS.FStr
import HandS.RaiseMore
import HandS.WrittenGet
import HandS.Walk
import HandS.Steps
import HandS.Style
import HandS.Flow
import HandS.Conv
import HandS.DictComp
import HandS.IsInst
import HandS.Nested
import HandS.Codes
import HandS.EndTab
import KE.KNestM
import PySem.Challenge.RW_anewhall_k02_asked_in_order
set_option Elab.async false
set_option linter.all false
set_option maxRecDepth 100000
namespace Aw
open PySem L2
/-! ### the mirror: trees, words, the parser, the lexer -/
inductive Kd where
  | sum | least | most
  deriving DecidableEq
def Kd.nm : Kd → Str
  | .sum => "sum"
  | .least => "least"
  | .most => "most"
def Kd.sg : Kd → Str
  | .sum => "+"
  | .least => "&"
  | .most => "|"
inductive T where
  | num (n : Int)
  | name (s : Str)
  | gate (s : Str) (b : Int) (t : T)
  | join (k : Kd) (ts : List T)
/-- a whole number's text -/
def tx (i : Int) : Str := toString i
def wd (ws : List Str) (i : Nat) : Str := ws.getD i Str.empty
def LET : List Nat := (("abcdefghijklmnopqrstuvwxyz" : Str)).cps.toList
def FIG : List Nat := (("0123456789" : Str)).cps.toList
def OTH : List Nat := (("+&|()[]" : Str)).cps.toList
def nameM (s : Str) : Bool := decide (1 ≤ s.length ∧ s.length ≤ 6) && s.cps.toList.all fun c => decide (c ∈ LET)
def numM (lo : Int) (w : Str) : Option Int := ((List.range (31 - lo).toNat).find? fun i => decide (w = tx (lo + (i : Nat)))).map fun i => lo + (i : Nat)
section
variable (ws : List Str)
def chainM (f : Nat → Option (T × Nat)) (sg : Str) : Nat → List T → Nat → Option (List T × Nat)
  | 0, _, _ => none
  | n + 1, ts, j => if wd ws j = sg then
      match f (j + 1) with
      | none => none
      | some (t, j') => chainM f sg n (ts ++ [t]) j'
    else some (ts, j)
/-- what the chain of pieces comes to -/
def joinM (k : Kd) (ts : List T) : Option T := if 8 < ts.length then none else
  match ts with
  | [t] => some t
  | _ => some (.join k ts)
def levelM (f : Nat → Option (T × Nat)) : List Kd → Nat → Option (T × Nat)
  | [], i => f i
  | k :: ks, i =>
    match levelM f ks i with
    | none => none
    | some (t, j) =>
      match chainM ws (levelM f ks) k.sg (ws.length + 1) [t] j with
      | none => none
      | some (ts, j') => (joinM k ts).map fun t => (t, j')
def kinds : List Kd := [.most, .least, .sum]
def gateM (f : Nat → Option (T × Nat)) (i : Nat) : Option (T × Nat) :=
  if nameM (wd ws i) = true then
    match numM 1 (wd ws (i + 1)) with
    | none => none
    | some b => if wd ws (i + 2) = "]" then (f (i + 3)).map fun r => (.gate (wd ws i) b r.1, r.2) else none
  else none
def pieceM : Nat → Nat → Option (T × Nat)
  | 0, _ => none
  | d + 1, i =>
    if wd ws i = "(" then
      match levelM ws (pieceM d) kinds (i + 1) with
      | none => none
      | some (t, j) => if wd ws j = ")" then some (t, j + 1) else none
    else if wd ws i = "[" then gateM ws (pieceM d) (i + 1)
    else if nameM (wd ws i) = true then some (.name (wd ws i), i + 1)
    else (numM 0 (wd ws i)).map fun n => (.num n, i + 1)
end
inductive Kn where
  | letter | figure | other | blank
  deriving DecidableEq
def Kn.nm : Kn → Str
  | .letter => "letter"
  | .figure => "figure"
  | .other => "other"
  | .blank => "blank"
def sg1 (c : Nat) : Str := ⟨#[c]⟩
def kindM (c : Nat) : Option Kn :=
  if c ∈ LET then some .letter else if c ∈ FIG then some .figure else if c ∈ OTH then some .other else if sg1 c = " " then some .blank else none
def addLast (ws : List Str) (c : Nat) : List Str := ws.set (ws.length - 1) (wd ws (ws.length - 1) ++ sg1 c)
def lexStep (st : List Str × Kn) (c : Nat) (k : Kn) : List Str :=
  if k = st.2 ∧ (k = .letter ∨ k = .figure) then addLast st.1 c else if k ≠ .blank then st.1 ++ [sg1 c] else st.1
def lexGo : List Nat → List Str → Kn → Option (List Str)
  | [], ws, _ => some ws
  | c :: r, ws, b =>
    match kindM c with
    | none => none
    | some k => lexGo r (lexStep (ws, b) c k) k
def lexM (z : Str) : Option (List Str) := lexGo z.cps.toList [] .blank
def readM (z : Str) : Option T :=
  if 400 < z.length then none else
  match lexM z with
  | none => none
  | some ws => if 40 < ws.length then none else
    match levelM ws (pieceM ws 3) kinds 0 with
    | none => none
    | some (t, j) => if wd ws j = Str.empty then some t else none
/-! ### the heap -/
/-- all but what stands at p is as it was -/
def But (p : Addr) (H H' : Hp) : Prop := ∀ b o, H b = some o → b ≠ p → H' b = some o
theorem But.refl (p : Addr) (H : Hp) : But p H H := fun _ _ h _ => h
theorem But.trans {p : Addr} {H H1 H2 : Hp} (a : But p H H1) (b : But p H1 H2) : But p H H2 := fun c o h hc => b c o (a c o h hc) hc
theorem But.of_same {p : Addr} {H H1 : Hp} (a : Same H H1) : But p H H1 := fun c o h _ => a c o h
theorem same_new {H : Hp} {p : Addr} (h : H p = none) (o : HO) : Same H (upd H p o) := fun b u q => by rw [upd_ne (ne_of_none q h)]; exact q
theorem same_upd {H H1 : Hp} {D : Addr} (s : Same H H1) (hD : H D = none) (o : HO) : Same H (upd H1 D o) := fun b u q => by rw [upd_ne (ne_of_none q hD)]; exact s b u q
theorem take_more {α : Type} : ∀ {l : List α} {i : Nat} {x : α}, l[i]? = some x → l.take (i + 1) = l.take i ++ [x]
  | [], i, x, h => by simp at h
  | a :: l, 0, x, h => by
    have e : a = x := Option.some.inj h
    subst e
    rfl
  | a :: l, i + 1, x, h => by
    have ih := take_more (l := l) (i := i) (x := x) h
    show a :: l.take (i + 1) = a :: l.take i ++ [x]
    rw [ih]
    rfl
theorem But.upd {p : Addr} {H : Hp} (o : HO) : But p H (upd H p o) := fun b u q hb => by rw [upd_ne hb]; exact q
mutual
inductive TA (H : Hp) : V → T → Prop
  | num {a : Addr} {n : Int} : H a = some (.tup [.str "number", .int n]) → TA H (.ref a) (.num n)
  | name {a : Addr} {s : Str} : H a = some (.tup [.str "name", .str s]) → TA H (.ref a) (.name s)
  | gate {a : Addr} {s : Str} {b : Int} {v : V} {t : T} : H a = some (.tup [.str "gate", .str s, .int b, v]) → TA H v t → TA H (.ref a) (.gate s b t)
  | join {a p : Addr} {k : Kd} {vs : List V} {ts : List T} : H a = some (.tup [.str k.nm, .ref p]) → H p = some (.tup vs) → TAs H vs ts → TA H (.ref a) (.join k ts)
inductive TAs (H : Hp) : List V → List T → Prop
  | nil : TAs H [] []
  | cons {v : V} {t : T} {vs : List V} {ts : List T} : TA H v t → TAs H vs ts → TAs H (v :: vs) (t :: ts)
end
/-- every tuple stays -/
def Tups (H H' : Hp) : Prop := ∀ b xs, H b = some (.tup xs) → H' b = some (.tup xs)
theorem Tups.of_same {H H' : Hp} (h : Same H H') : Tups H H' := fun b _ q => h b _ q
theorem Tups.of_but {H H' : Hp} {p : Addr} (h : But p H H') (hp : ∀ xs, H p ≠ some (.tup xs)) : Tups H H' := fun b xs q => h b _ q fun e => hp xs (e ▸ q)
mutual
theorem TA.mono {H H' : Hp} (h : Tups H H') : ∀ {v : V} {t : T}, TA H v t → TA H' v t
  | _, _, .num e => .num (h _ _ e)
  | _, _, .name e => .name (h _ _ e)
  | _, _, .gate e q => .gate (h _ _ e) (TA.mono h q)
  | _, _, .join e e2 q => .join (h _ _ e) (h _ _ e2) (TAs.mono h q)
theorem TAs.mono {H H' : Hp} (h : Tups H H') : ∀ {v : List V} {t : List T}, TAs H v t → TAs H' v t
  | _, _, .nil => .nil
  | _, _, .cons a b => .cons (TA.mono h a) (TAs.mono h b)
end
theorem TAs.length {H : Hp} {vs : List V} {ts : List T} (h : TAs H vs ts) : vs.length = ts.length := by
  induction vs generalizing ts with
  | nil => cases h; rfl
  | cons v r ih => cases h with | cons a b => rw [List.length_cons, List.length_cons, ih b]
theorem TAs.snoc {H : Hp} {v : V} {t : T} (h1 : TA H v t) : ∀ {vs : List V} {ts : List T}, TAs H vs ts → TAs H (vs ++ [v]) (ts ++ [t])
  | _, _, .nil => .cons h1 .nil
  | _, _, .cons a b => .cons a (TAs.snoc h1 b)
theorem TAs.get {H : Hp} : ∀ {vs : List V} {ts : List T} {i : Nat} {v : V}, TAs H vs ts → vs[i]? = some v → ∃ t, ts[i]? = some t ∧ TA H v t
  | _, _, i, v, .nil, h => by simp at h
  | _, _, 0, v, .cons a b, h => ⟨_, rfl, by have e := Option.some.inj h; exact e ▸ a⟩
  | _, _, i + 1, v, .cons a b, h => by
    obtain ⟨t, h1, h2⟩ := TAs.get b (i := i) (v := v) (by simpa using h)
    exact ⟨t, by simpa using h1, h2⟩
/-! ### the reader of words -/
def rflds (l : Addr) (i : Nat) : List (Str × V) := putF "at" (.int i) (putF "words" (.ref l) [])
theorem wa : ¬ (("words" : Str) = "at") := by decide +kernel
theorem rflds_words (l : Addr) (i : Nat) : (rflds l i).lookup ("words" : Str) = some (.ref l) := by
  unfold rflds
  rw [lookup_putF, if_neg wa, lookup_putF, if_pos rfl]
theorem rflds_at (l : Addr) (i : Nat) : (rflds l i).lookup ("at" : Str) = some (.int i) := by
  unfold rflds
  rw [lookup_putF, if_pos rfl]
theorem rflds_no (l : Addr) (i : Nat) {m : Str} (h1 : ¬ m = "at") (h2 : ¬ m = "words") : (rflds l i).lookup m = none := by
  unfold rflds
  rw [lookup_putF, if_neg h1, lookup_putF, if_neg h2]
  all_goals rfl
theorem rflds_eq (l : Addr) (i : Nat) : rflds l i = ([("words", V.ref l), ("at", V.int i)] : List (Str × V)) := by
  show (if ("words" : Str) = "at" then [(("words" : Str), V.int i)] else (("words" : Str), V.ref l) :: putF "at" (V.int i) []) = ([("words", V.ref l), ("at", V.int i)] : List (Str × V))
  rw [if_neg wa]
  all_goals rfl
theorem rflds_put (l : Addr) (i : Nat) {z : Int} (hz : z = ((i + 1 : Nat) : Int)) : putF "at" (.int z) (rflds l i) = rflds l (i + 1) := by
  subst hz
  rw [rflds_eq, rflds_eq]
  show (if ("words" : Str) = "at" then _ else (("words" : Str), V.ref l) :: (if ("at" : Str) = "at" then [(("at" : Str), V.int ((i + 1 : Nat) : Int))] else _)) = ([("words", V.ref l), ("at", V.int ((i + 1 : Nat) : Int))] : List (Str × V))
  rw [if_neg wa, if_pos rfl]
structure RdAt (C p l : Addr) (ws : List Str) (i : Nat) (H : Hp) : Prop where
  ob : ∃ dx, H p = some (.ins C dx (rflds l i))
  ls : H l = some (.lst (ws.map V.str))
  ln : ws.length ≤ 1000
theorem RdAt.mono {C p l : Addr} {ws : List Str} {i : Nat} {H H' : Hp} (h : RdAt C p l ws i H) (s : Same H H') : RdAt C p l ws i H' := by
  obtain ⟨dx, e⟩ := h.ob
  exact ⟨⟨dx, s _ _ e⟩, s _ _ h.ls, h.ln⟩
theorem RdAt.tups {C p l : Addr} {ws : List Str} {i : Nat} {H H' : Hp} (h : RdAt C p l ws i H) (s : But p H H') : Tups H H' := by
  obtain ⟨dx, e⟩ := h.ob
  exact Tups.of_but s fun xs q => by rw [e] at q; cases q
theorem RdAt.keep {C p l : Addr} {ws : List Str} {i : Nat} {H H' : Hp} (h : RdAt C p l ws i H) (s : But p H H') {a : Addr} {xs : List V} (e : H a = some (.lst xs)) : H' a = some (.lst xs) := by
  obtain ⟨dx, e1⟩ := h.ob
  exact s _ _ e (ne_of e e1 (by intro z; cases z))
theorem RdAt.ne_new {C p l : Addr} {ws : List Str} {i : Nat} {H : Hp} (h : RdAt C p l ws i H) {a : Addr} (e : H a = none) : p ≠ a := by
  obtain ⟨dx, e1⟩ := h.ob
  exact ne_of_none e1 e
theorem wd_get {ws : List Str} {i : Nat} (h : i < ws.length) : ws[i]? = some (wd ws i) := by
  unfold wd
  rw [List.getD_eq_getElem?_getD, List.getElem?_eq_getElem h]
  rfl
theorem wd_end {ws : List Str} {i : Nat} (h : ¬ i < ws.length) : wd ws i = Str.empty := by
  unfold wd
  rw [List.getD_eq_getElem?_getD, List.getElem?_eq_none (by omega)]
  rfl
theorem wd_lt {ws : List Str} {i : Nat} {s : Str} (h : wd ws i = s) (hs : ¬ Str.empty = s) : i < ws.length := by
  rcases Nat.lt_or_ge i ws.length with q | q
  · exact q
  · exact absurd ((wd_end (by omega)).symm.trans h) hs
/-! ### the promises of the reading -/
def spInit (C : Addr) : Sp := fun vs H Q _ => ∃ (p dx l : Addr), vs = [.ref p, .ref l] ∧ H p = some (.ins C dx []) ∧ ∀ (H' : Hp), H' p = some (.ins C dx (rflds l 0)) → But p H H' → Q .non H'
def spAhead (C : Addr) : Sp := fun vs H Q _ => ∃ p l ws i, vs = [.ref p] ∧ RdAt C p l ws i H ∧ Q (.str (wd ws i)) H
def spTaken (C : Addr) : Sp := fun vs H Q _ => ∃ p l ws i, vs = [.ref p] ∧ RdAt C p l ws i H ∧ ∀ H', But p H H' → RdAt C p l ws (i + 1) H' → Q (.str (wd ws i)) H'
def spExpect (C N : Addr) : Sp := fun vs H Q E => ∃ p l ws i z, vs = [.ref p, .str z] ∧ RdAt C p l ws i H ∧ z.length ≤ 1000 ∧ (∀ w ∈ ws, w.length ≤ 1000) ∧
  (wd ws i = z → ∀ H', But p H H' → RdAt C p l ws (i + 1) H' → Q .non H') ∧ (¬ wd ws i = z → ∀ H', But p H H' → E (.ref N) none H')
def spName : Sp := fun vs H Q _ => ∃ z, vs = [.str z] ∧ z.length ≤ 1000 ∧ ∀ H', Same H H' → Q (.bl (nameM z)) H'
def spNum (N : Addr) : Sp := fun vs H Q E => ∃ z lo, vs = [.str z, .int lo] ∧ 0 ≤ lo ∧ lo ≤ 30 ∧ (∀ n, numM lo z = some n → Q (.int n) H) ∧ (numM lo z = none → E (.ref N) none H)
def spKind (N : Addr) : Sp := fun vs H Q E => ∃ c, vs = [.str (sg1 c)] ∧ (∀ k, kindM c = some k → Q (.str k.nm) H) ∧ (kindM c = none → E (.ref N) none H)
def spWords (N : Addr) : Sp := fun vs H Q E => ∃ z, vs = [.str z] ∧ z.length ≤ 1000 ∧ (∀ ws, lexM z = some ws → ∀ l H', Same H H' → H l = none → H' l = some (.lst (ws.map V.str)) → Q (.ref l) H') ∧ (lexM z = none → ∀ H', Same H H' → E (.ref N) none H')
/-- a reading of a piece from the word at i on -/
def RdOut (C N p l : Addr) (ws : List Str) (H : Hp) (Q : VK) (E : XK) : Option (T × Nat) → Prop
  | some (t, j) => ∀ v H', But p H H' → RdAt C p l ws j H' → TA H' v t → Q v H'
  | none => ∀ H', But p H H' → E (.ref N) none H'
structure WsOk (ws : List Str) : Prop where
  ws : ∀ w ∈ ws, w.length ≤ 1000
theorem WsOk.wd {ws : List Str} (h : WsOk ws) (i : Nat) : (wd ws i).length ≤ 1000 := by
  rcases Nat.lt_or_ge i ws.length with q | q
  · exact h.ws _ (List.mem_of_getElem? (wd_get q))
  · rw [wd_end (by omega)]; exact Nat.zero_le _
def spLevel (C N : Addr) (ks : List Kd) (f : List Str → Nat → Option (T × Nat)) (lv dp : Int) : Sp := fun vs H Q E => ∃ p l ws i, vs = [.ref p, .int lv, .int dp] ∧ RdAt C p l ws i H ∧ WsOk ws ∧ RdOut C N p l ws H Q E (levelM ws (f ws) ks i)
def spPiece (C N : Addr) (f : List Str → Nat → Option (T × Nat)) (dp : Int) : Sp := fun vs H Q E => ∃ p l ws i, vs = [.ref p, .int dp] ∧ RdAt C p l ws i H ∧ WsOk ws ∧ RdOut C N p l ws H Q E (f ws i)
def spRead (N : Addr) : Sp := fun vs H Q E => ∃ z, vs = [.str z] ∧ (z.length ≤ sizeLine) ∧ (∀ t, readM z = some t → ∀ v H', Same H H' → TA H' v t → Q v H') ∧ (readM z = none → ∀ H', Same H H' → E (.ref N) none H')
end Aw

namespace Aw
open PySem L2
/-! ### the law's own trees (lists in the place of tuples), dice, names -/
mutual
inductive LA (H : Hp) : V → T → Prop
  | num {a : Addr} {n : Int} : H a = some (.tup [.str "number", .int n]) → LA H (.ref a) (.num n)
  | name {a : Addr} {s : Str} : H a = some (.tup [.str "name", .str s]) → LA H (.ref a) (.name s)
  | gate {a : Addr} {s : Str} {b : Int} {v : V} {t : T} : H a = some (.tup [.str "gate", .str s, .int b, v]) → LA H v t → LA H (.ref a) (.gate s b t)
  | join {a p : Addr} {k : Kd} {vs : List V} {ts : List T} : H a = some (.tup [.str k.nm, .ref p]) → H p = some (.lst vs) → 0 < ts.length → LAs H vs ts → LA H (.ref a) (.join k ts)
inductive LAs (H : Hp) : List V → List T → Prop
  | nil : LAs H [] []
  | cons {v : V} {t : T} {vs : List V} {ts : List T} : LA H v t → LAs H vs ts → LAs H (v :: vs) (t :: ts)
end
theorem LA.isRef {H : Hp} {v : V} {t : T} (h : LA H v t) : ∃ a, v = .ref a := by
  cases h <;> exact ⟨_, rfl⟩
theorem LAs.headRef {H : Hp} {vs : List V} {ts : List T} (h : LAs H vs ts) (h0 : 0 < ts.length) : ∃ a r, vs = .ref a :: r := by
  cases h with
  | nil => exact absurd h0 (Nat.lt_irrefl 0)
  | cons a b =>
    obtain ⟨x, rfl⟩ := a.isRef
    exact ⟨x, _, rfl⟩
/-- tuples stay, and lists that begin with an object -/
def Keep (H H' : Hp) : Prop := (∀ b xs, H b = some (.tup xs) → H' b = some (.tup xs)) ∧ ∀ b a r, H b = some (.lst (.ref a :: r)) → H' b = some (.lst (.ref a :: r))
theorem Keep.of_same {H H' : Hp} (h : Same H H') : Keep H H' := ⟨fun b _ q => h b _ q, fun b _ _ q => h b _ q⟩
theorem Keep.of_but {H H' : Hp} {p : Addr} (h : But p H H') (hp : ∃ i r, H p = some (.lst (.int i :: r))) : Keep H H' := by
  obtain ⟨i, r, e⟩ := hp
  refine ⟨fun b xs q => h b _ q (fun z => ?_), fun b a r' q => h b _ q (fun z => ?_)⟩
  · subst z; rw [e] at q; cases q
  · subst z; rw [e] at q; cases q
mutual
theorem LA.mono {H H' : Hp} (h : Keep H H') : ∀ {v : V} {t : T}, LA H v t → LA H' v t
  | _, _, .num e => .num (h.1 _ _ e)
  | _, _, .name e => .name (h.1 _ _ e)
  | _, _, .gate e q => .gate (h.1 _ _ e) (LA.mono h q)
  | _, _, .join e e2 h0 q => .join (h.1 _ _ e) (by obtain ⟨a, r, rfl⟩ := q.headRef h0; exact h.2 _ _ _ e2) h0 (LAs.mono h q)
theorem LAs.mono {H H' : Hp} (h : Keep H H') : ∀ {v : List V} {t : List T}, LAs H v t → LAs H' v t
  | _, _, .nil => .nil
  | _, _, .cons a b => .cons (LA.mono h a) (LAs.mono h b)
end
theorem LAs.length {H : Hp} {vs : List V} {ts : List T} (h : LAs H vs ts) : vs.length = ts.length := by
  induction vs generalizing ts with
  | nil => cases h; rfl
  | cons v r ih => cases h with | cons a b => rw [List.length_cons, List.length_cons, ih b]
theorem LAs.snoc {H : Hp} {v : V} {t : T} (h1 : LA H v t) : ∀ {vs : List V} {ts : List T}, LAs H vs ts → LAs H (vs ++ [v]) (ts ++ [t])
  | _, _, .nil => .cons h1 .nil
  | _, _, .cons a b => .cons a (LAs.snoc h1 b)
theorem LAs.get {H : Hp} : ∀ {vs : List V} {ts : List T} {i : Nat} {v : V}, LAs H vs ts → vs[i]? = some v → ∃ t, ts[i]? = some t ∧ LA H v t
  | _, _, i, v, .nil, h => by simp at h
  | _, _, 0, v, .cons a b, h => ⟨_, rfl, by have e := Option.some.inj h; exact e ▸ a⟩
  | _, _, i + 1, v, .cons a b, h => by
    obtain ⟨t, h1, h2⟩ := LAs.get b (i := i) (v := v) (by simpa using h)
    exact ⟨t, by simpa using h1, h2⟩
/-- what a drawn tree keeps: at most d storeys -/
def TOk (P : Str → Prop) : Nat → T → Prop
  | _, .num n => 0 ≤ n ∧ n ≤ 30
  | _, .name s => P s
  | 0, .gate _ _ _ => False
  | 0, .join _ _ => False
  | d + 1, .gate s b t => P s ∧ 1 ≤ b ∧ b ≤ 30 ∧ TOk P d t
  | d + 1, .join _ ts => 2 ≤ ts.length ∧ ts.length ≤ 3 ∧ ∀ t ∈ ts, TOk P d t
theorem TOk.num {P : Str → Prop} {d : Nat} {n : Int} (h : TOk P d (.num n)) : 0 ≤ n ∧ n ≤ 30 := by cases d <;> exact h
theorem TOk.name {P : Str → Prop} {d : Nat} {s : Str} (h : TOk P d (.name s)) : P s := by cases d <;> exact h
theorem TOk.mkNum {P : Str → Prop} {d : Nat} {n : Int} (h : 0 ≤ n ∧ n ≤ 30) : TOk P d (.num n) := by cases d <;> exact h
theorem TOk.mkName {P : Str → Prop} {d : Nat} {s : Str} (h : P s) : TOk P d (.name s) := by cases d <;> exact h
theorem TOk.imp {P P' : Str → Prop} (hp : ∀ s, P s → P' s) : ∀ (d : Nat) {t : T}, TOk P d t → TOk P' d t
  | 0, .num _, h => h
  | 0, .name _, h => hp _ h
  | 0, .gate _ _ _, h => h
  | 0, .join _ _, h => h
  | d + 1, .num _, h => h
  | d + 1, .name _, h => hp _ h
  | d + 1, .gate _ _ _, h => ⟨hp _ h.1, h.2.1, h.2.2.1, TOk.imp hp d h.2.2.2⟩
  | d + 1, .join _ _, h => ⟨h.1, h.2.1, fun t ht => TOk.imp hp d (h.2.2 t ht)⟩
def NameOk (s : Str) : Prop := nameM s = true
def DiceAt (H : Hp) (d : Addr) : Prop := ∃ x y : Int, H d = some (.lst [.int x, .int y]) ∧ 0 ≤ x ∧ x < 2147483647 ∧ 0 ≤ y
theorem DiceAt.mono {H H' : Hp} {d : Addr} (h : DiceAt H d) (s : Same H H') : DiceAt H' d := by
  obtain ⟨x, y, e, q⟩ := h
  exact ⟨x, y, s _ _ e, q⟩
theorem DiceAt.keep {H H' : Hp} {d : Addr} (h : DiceAt H d) (b : But d H H') : Keep H H' := by
  obtain ⟨x, y, e, q⟩ := h
  exact .of_but b ⟨x, _, e⟩
/-- what is new in H' -/
def fresh (H H' : Hp) : Hp := fun b => match H b with
  | none => H' b
  | some _ => none
def hide (D : Addr) (G : Hp) : Hp := fun b => if b = D then none else G b
theorem fresh_at {H H' : Hp} {p : Addr} {o : HO} (h : H p = none) (e : H' p = some o) : fresh H H' p = some o := by
  unfold fresh
  rw [h]
  exact e
theorem fresh_inv {H H' : Hp} {p : Addr} {o : HO} (h : fresh H H' p = some o) : H p = none ∧ H' p = some o := by
  unfold fresh at h
  cases e : H p with
  | none => rw [e] at h; exact ⟨rfl, h⟩
  | some u => rw [e] at h; cases h
theorem fresh_sub {H H' : Hp} : Same (fresh H H') H' := fun b o h => (fresh_inv h).2
theorem free_of {H H' : Hp} {dd p : Addr} (D : DiceAt H' dd) (b : But dd H H') (h : H' p = none) : H p = none := by
  cases e : H p with
  | none => rfl
  | some o =>
    by_cases c : p = dd
    · subst c
      obtain ⟨x, y, e2, _⟩ := D
      rw [h] at e2
      cases e2
    · have := b p o e c
      rw [h] at this
      cases this
/-- what a callee made new is new for the caller too -/
theorem fresh_step {H H1 H2 H3 : Hp} {dd : Addr} (D : DiceAt H1 dd) (b : But dd H H1) (s : Same H2 H3) : Same (fresh H1 H2) (fresh H H3) := fun p o h => by
  obtain ⟨h1, h2⟩ := fresh_inv h
  exact fresh_at (free_of D b h1) (s p o h2)
/-! ### how a tree is written -/
def Kd.rank : Kd → Int
  | .most => 1
  | .least => 2
  | .sum => 3
def sp1 : Str := " "
def Kd.sep (k : Kd) : Str := sp1 ++ k.sg ++ sp1
mutual
def wr (firm : Int) : T → Str
  | .num n => tx n
  | .name s => s
  | .gate s b t => "[" ++ s ++ " " ++ tx b ++ "] " ++ wr 4 t
  | .join k ts => if k.rank < firm then "(" ++ wrs k.sep (k.rank + 1) ts ++ ")" else wrs k.sep (k.rank + 1) ts
def wrs (sep : Str) (firm : Int) : List T → Str
  | [] => Str.empty
  | [t] => wr firm t
  | t :: r => wr firm t ++ sep ++ wrs sep firm r
end
theorem app_assoc (a b c : Str) : a ++ b ++ c = a ++ (b ++ c) := by
  show (⟨(a.cps ++ b.cps) ++ c.cps⟩ : Str) = ⟨a.cps ++ (b.cps ++ c.cps)⟩
  rw [Array.append_assoc]
theorem len_app' (a b : Str) : (a ++ b).length = a.length + b.length := by
  show (a.cps ++ b.cps).size = _
  rw [Array.size_append] <;> rfl
theorem wrs_one (sep : Str) (f : Int) (t : T) : wrs sep f [t] = wr f t := by unfold wrs; rfl
theorem wrs_two (sep : Str) (f : Int) (t u : T) (r : List T) : wrs sep f (t :: u :: r) = wr f t ++ sep ++ wrs sep f (u :: r) := by conv => lhs; unfold wrs
theorem wrs_snoc (sep : Str) (f : Int) (t : T) : ∀ {ts : List T}, ts ≠ [] → wrs sep f (ts ++ [t]) = wrs sep f ts ++ sep ++ wr f t
  | [], h => absurd rfl h
  | [u], _ => by
    show wrs sep f [u, t] = _
    rw [wrs_two, wrs_one, wrs_one]
  | u :: v :: r, _ => by
    show wrs sep f (u :: v :: (r ++ [t])) = _
    rw [wrs_two, wrs_two]
    have ih := wrs_snoc sep f t (ts := v :: r) (by intro z; cases z)
    rw [show v :: (r ++ [t]) = (v :: r) ++ [t] from rfl, ih, app_assoc, app_assoc, app_assoc, app_assoc, app_assoc]
theorem tx_len {n : Int} (h : 0 ≤ n ∧ n ≤ 30) : (tx n).length ≤ 2 := by
  have q : ∀ k : Nat, k < 31 → (tx (k : Int)).length ≤ 2 := by decide +kernel
  have e := q n.toNat (by omega)
  rwa [show ((n.toNat : Nat) : Int) = n by omega] at e
def LB : Nat → Nat
  | 0 => 6
  | d + 1 => 3 * LB d + 20
theorem LB_six : ∀ d, 6 ≤ LB d
  | 0 => Nat.le_refl 6
  | d + 1 => by have := LB_six d; show 6 ≤ 3 * LB d + 20; omega
theorem sep_len (k : Kd) : k.sep.length = 3 := by cases k <;> decide +kernel
theorem wrs_len {sep : Str} {f : Int} {B : Nat} (hs : sep.length = 3) : ∀ {ts : List T}, ts ≠ [] → (∀ t ∈ ts, (wr f t).length ≤ B) → (wrs sep f ts).length + 3 ≤ ts.length * (B + 3)
  | [], h, _ => absurd rfl h
  | [u], _, h => by
    rw [wrs_one]
    have := h u (List.mem_singleton.mpr rfl)
    show _ ≤ 1 * (B + 3)
    omega
  | u :: v :: r, _, h => by
    rw [wrs_two, len_app', len_app', hs]
    have ih := wrs_len hs (ts := v :: r) (f := f) (by intro z; cases z) fun t ht => h t (List.mem_cons_of_mem _ ht)
    have h1 := h u List.mem_cons_self
    have e : (u :: v :: r).length * (B + 3) = (v :: r).length * (B + 3) + (B + 3) := by
      rw [List.length_cons (a := u), Nat.add_mul, Nat.one_mul]
    omega
theorem wr_len {P : Str → Prop} (hP : ∀ s, P s → s.length ≤ 6) : ∀ (d : Nat) {t : T} (f : Int), TOk P d t → (wr f t).length ≤ LB d
  | d, .num n, f, h => by
    have := tx_len h.num
    have := LB_six d
    unfold wr
    omega
  | d, .name s, f, h => by
    have := hP _ h.name
    have := LB_six d
    unfold wr
    omega
  | 0, .gate _ _ _, _, h => h.elim
  | 0, .join _ _, _, h => h.elim
  | d + 1, .gate s b t, f, h => by
    obtain ⟨h1, h2, h3, h4⟩ := h
    have e1 := hP _ h1
    have e2 := tx_len (n := b) ⟨by omega, h3⟩
    have e3 := wr_len hP d 4 h4
    unfold wr
    rw [len_app', len_app', len_app', len_app', len_app']
    have c1 : ("[" : Str).length = 1 := by decide +kernel
    have c2 : (" " : Str).length = 1 := by decide +kernel
    have c3 : ("] " : Str).length = 2 := by decide +kernel
    show _ ≤ 3 * LB d + 20
    omega
  | d + 1, .join k ts, f, h => by
    obtain ⟨h1, h2, h3⟩ := h
    have hne : ts ≠ [] := by intro z; subst z; simp at h1
    have e := wrs_len (f := k.rank + 1) (B := LB d) (sep_len k) hne fun t ht => wr_len hP d _ (h3 t ht)
    have e2 : ts.length * (LB d + 3) ≤ 3 * (LB d + 3) := Nat.mul_le_mul_right _ h2
    have c1 : ("(" : Str).length = 1 := by decide +kernel
    have c2 : (")" : Str).length = 1 := by decide +kernel
    unfold wr
    show _ ≤ 3 * LB d + 20
    split
    · rw [len_app', len_app']; omega
    · omega
end Aw

namespace Aw
open PySem L2
/-! ### the words of a written tree -/
def Kd.rk : Kd → Nat
  | .most => 1
  | .least => 2
  | .sum => 3
theorem Kd.rk_rank (k : Kd) : k.rank = (k.rk : Int) := by cases k <;> rfl
mutual
def ww (f : Nat) : T → List Str
  | .num n => [tx n]
  | .name s => [s]
  | .gate s b t => "[" :: s :: tx b :: "]" :: ww 4 t
  | .join k ts => if k.rk < f then "(" :: (wws (k.rk + 1) k.sg ts ++ ([(")" : Str)] : List Str)) else wws (k.rk + 1) k.sg ts
def wws (f : Nat) (sg : Str) : List T → List Str
  | [] => []
  | t :: r => ww f t ++ wwr f sg r
def wwr (f : Nat) (sg : Str) : List T → List Str
  | [] => []
  | t :: r => sg :: (ww f t ++ wwr f sg r)
end
/-! ### the lexer over a written tree -/
theorem str_eta (z : Str) : (⟨z.cps.toList.toArray⟩ : Str) = z := by cases z; rfl
theorem lex_other {c : Nat} (h : kindM c = some .other) (r : List Nat) (ws : List Str) (b : Kn) : lexGo (c :: r) ws b = lexGo r (ws ++ [sg1 c]) .other := by
  conv => lhs; unfold lexGo
  rw [h]
  show lexGo r (lexStep (ws, b) c .other) .other = _
  unfold lexStep
  rw [if_neg (by rintro ⟨_, h | h⟩ <;> cases h), if_pos (by intro z; cases z)]
theorem lex_blank {c : Nat} (h : kindM c = some .blank) (r : List Nat) (ws : List Str) (b : Kn) : lexGo (c :: r) ws b = lexGo r ws .blank := by
  conv => lhs; unfold lexGo
  rw [h]
  show lexGo r (lexStep (ws, b) c .blank) .blank = _
  unfold lexStep
  rw [if_neg (by rintro ⟨_, h | h⟩ <;> cases h), if_neg (by intro z; exact z rfl)]
def Sep (b : Kn) : Prop := b = .other ∨ b = .blank
/-- the signs of one kind in a row -/
theorem lex_more {k : Kn} (hk : k = .letter ∨ k = .figure) (rest : List Nat) (ws : List Str) : ∀ (cs : List Nat) (z : Str), (∀ c ∈ cs, kindM c = some k) → lexGo (cs ++ rest) (ws ++ [z]) k = lexGo rest (ws ++ [z ++ ⟨cs.toArray⟩]) k
  | [], z, _ => by
    have e : z ++ (⟨([] : List Nat).toArray⟩ : Str) = z := by
      show (⟨z.cps ++ #[]⟩ : Str) = z
      rw [Array.append_empty]
    rw [e]
    rfl
  | c :: r, z, h => by
    rw [List.cons_append]
    conv => lhs; unfold lexGo
    rw [h c List.mem_cons_self]
    show lexGo (r ++ rest) (lexStep (ws ++ [z], k) c k) k = _
    have e : lexStep (ws ++ [z], k) c k = ws ++ [z ++ sg1 c] := by
      unfold lexStep
      rw [if_pos ⟨rfl, hk⟩]
      unfold addLast
      dsimp only
      have hl : (ws ++ [z]).length - 1 = ws.length := by rw [List.length_append, List.length_singleton]; omega
      have hw : wd (ws ++ [z]) ws.length = z := by
        unfold wd
        rw [List.getD_eq_getElem?_getD, List.getElem?_append_right (Nat.le_refl _), Nat.sub_self]
        rfl
      rw [hl, hw, List.set_append_right _ _ (Nat.le_refl _), Nat.sub_self]
      rfl
    rw [e, lex_more hk rest ws r (z ++ sg1 c) fun x hx => h x (List.mem_cons_of_mem _ hx)]
    congr 3
    show (⟨(z.cps ++ #[c]) ++ r.toArray⟩ : Str) = ⟨z.cps ++ (c :: r).toArray⟩
    congr 1
    rw [Array.append_assoc]
    congr 1
    simp
theorem lex_word {k : Kn} (hk : k = .letter ∨ k = .figure) {z : Str} (hz : 1 ≤ z.length) (h : ∀ c ∈ z.cps.toList, kindM c = some k) (rest : List Nat) (ws : List Str) {b : Kn} (hb : Sep b) : lexGo (z.cps.toList ++ rest) ws b = lexGo rest (ws ++ [z]) k := by
  cases e : z.cps.toList with
  | nil =>
    have : z.length = z.cps.toList.length := (Array.length_toList).symm
    rw [e] at this
    rw [this] at hz
    exact absurd hz (by decide)
  | cons c r =>
    rw [e] at h
    rw [List.cons_append]
    conv => lhs; unfold lexGo
    rw [h c List.mem_cons_self]
    show lexGo (r ++ rest) (lexStep (ws, b) c k) k = _
    have e1 : lexStep (ws, b) c k = ws ++ [sg1 c] := by
      unfold lexStep
      rw [if_neg (by rintro ⟨q, _⟩; dsimp only at q; subst q; rcases hb with q | q <;> rcases hk with p | p <;> (rw [p] at q; cases q)), if_pos (by intro q; subst q; rcases hk with p | p <;> cases p)]
    rw [e1, lex_more hk rest ws r (sg1 c) fun x hx => h x (List.mem_cons_of_mem _ hx)]
    congr 3
    show (⟨#[c] ++ r.toArray⟩ : Str) = z
    rw [← str_eta z, e]
    congr 1
    simp
theorem kind_let {c : Nat} (h : c ∈ LET) : kindM c = some .letter := by unfold kindM; rw [if_pos h]
theorem kind_fig {c : Nat} (h : c ∈ FIG) : kindM c = some .figure := by
  have q : ∀ c ∈ FIG, kindM c = some .figure := by decide +kernel
  exact q c h
theorem name_facts {s : Str} (h : NameOk s) : 1 ≤ s.length ∧ s.length ≤ 6 ∧ ∀ c ∈ s.cps.toList, c ∈ LET := by
  unfold NameOk nameM at h
  have q := Bool.and_eq_true_iff.mp h
  have q1 := of_decide_eq_true q.1
  exact ⟨q1.1, q1.2, fun c hc => of_decide_eq_true (List.all_eq_true.mp q.2 c hc)⟩
theorem lex_name {s : Str} (h : NameOk s) (rest : List Nat) (ws : List Str) {b : Kn} (hb : Sep b) : lexGo (s.cps.toList ++ rest) ws b = lexGo rest (ws ++ [s]) .letter := by
  obtain ⟨h1, _, h3⟩ := name_facts h
  exact lex_word (.inl rfl) h1 (fun c hc => kind_let (h3 c hc)) rest ws hb
theorem num_facts {n : Int} (h : 0 ≤ n ∧ n ≤ 30) : 1 ≤ (tx n).length ∧ (∀ c ∈ (tx n).cps.toList, c ∈ FIG) ∧ numM 0 (tx n) = some n ∧ nameM (tx n) = false ∧ ¬ tx n = "(" ∧ ¬ tx n = "[" := by
  have q : ∀ k : Nat, k < 31 → 1 ≤ (tx (k : Int)).length ∧ (∀ c ∈ (tx (k : Int)).cps.toList, c ∈ FIG) ∧ numM 0 (tx (k : Int)) = some (k : Int) ∧ nameM (tx (k : Int)) = false ∧ ¬ tx (k : Int) = "(" ∧ ¬ tx (k : Int) = "[" := by decide +kernel
  have e := q n.toNat (by omega)
  rwa [show ((n.toNat : Nat) : Int) = n by omega] at e
theorem bound_facts {n : Int} (h : 1 ≤ n ∧ n ≤ 30) : numM 1 (tx n) = some n := by
  have q : ∀ k : Nat, k < 31 → 1 ≤ k → numM 1 (tx (k : Int)) = some (k : Int) := by decide +kernel
  have e := q n.toNat (by omega) (by omega)
  rwa [show ((n.toNat : Nat) : Int) = n by omega] at e
theorem lex_num {n : Int} (h : 0 ≤ n ∧ n ≤ 30) (rest : List Nat) (ws : List Str) {b : Kn} (hb : Sep b) : lexGo ((tx n).cps.toList ++ rest) ws b = lexGo rest (ws ++ [tx n]) .figure := by
  obtain ⟨h1, h3, _⟩ := num_facts h
  exact lex_word (.inr rfl) h1 (fun c hc => kind_fig (h3 c hc)) rest ws hb
theorem cps_app (a b : Str) : (a ++ b).cps.toList = a.cps.toList ++ b.cps.toList := by
  show (a.cps ++ b.cps).toList = _
  rw [Array.toList_append]
theorem lex_sep (k : Kd) (rest : List Nat) (ws : List Str) (b : Kn) : lexGo (k.sep.cps.toList ++ rest) ws b = lexGo rest (ws ++ [k.sg]) .blank := by
  have e : k.sep.cps.toList = [32] ++ k.sg.cps.toList ++ [32] := by cases k <;> decide +kernel
  obtain ⟨c, h1, h2, h3⟩ : ∃ c, k.sg.cps.toList = [c] ∧ kindM c = some .other ∧ sg1 c = k.sg := by
    cases k
    · exact ⟨43, by decide +kernel⟩
    · exact ⟨38, by decide +kernel⟩
    · exact ⟨124, by decide +kernel⟩
  rw [e, h1]
  show lexGo (32 :: c :: 32 :: rest) ws b = _
  rw [lex_blank (by decide +kernel), lex_other h2, lex_blank (by decide +kernel), h3]
theorem lex_open (rest : List Nat) (ws : List Str) (b : Kn) : lexGo (("(" : Str).cps.toList ++ rest) ws b = lexGo rest (ws ++ ([("(" : Str)] : List Str)) .other := by
  rw [show ("(" : Str).cps.toList = [40] by decide +kernel]
  show lexGo (40 :: rest) ws b = _
  rw [lex_other (by decide +kernel), show sg1 40 = "(" by decide +kernel]
theorem lex_close (rest : List Nat) (ws : List Str) (b : Kn) : lexGo ((")" : Str).cps.toList ++ rest) ws b = lexGo rest (ws ++ ([(")" : Str)] : List Str)) .other := by
  rw [show (")" : Str).cps.toList = [41] by decide +kernel]
  show lexGo (41 :: rest) ws b = _
  rw [lex_other (by decide +kernel), show sg1 41 = ")" by decide +kernel]
theorem lex_gopen (rest : List Nat) (ws : List Str) (b : Kn) : lexGo (("[" : Str).cps.toList ++ rest) ws b = lexGo rest (ws ++ ([("[" : Str)] : List Str)) .other := by
  rw [show ("[" : Str).cps.toList = [91] by decide +kernel]
  show lexGo (91 :: rest) ws b = _
  rw [lex_other (by decide +kernel), show sg1 91 = "[" by decide +kernel]
theorem lex_gclose (rest : List Nat) (ws : List Str) (b : Kn) : lexGo (("] " : Str).cps.toList ++ rest) ws b = lexGo rest (ws ++ ([("]" : Str)] : List Str)) .blank := by
  rw [show ("] " : Str).cps.toList = [93, 32] by decide +kernel]
  show lexGo (93 :: 32 :: rest) ws b = _
  rw [lex_other (by decide +kernel), lex_blank (by decide +kernel), show sg1 93 = "]" by decide +kernel]
theorem lex_sp (rest : List Nat) (ws : List Str) (b : Kn) : lexGo ((" " : Str).cps.toList ++ rest) ws b = lexGo rest ws .blank := by
  rw [show (" " : Str).cps.toList = [32] by decide +kernel]
  show lexGo (32 :: rest) ws b = _
  rw [lex_blank (by decide +kernel)]
/-- the text z, from a place between words on, is the words W -/
def Lx (z : Str) (W : List Str) : Prop := ∀ (rest : List Nat) (ws : List Str) (b : Kn), Sep b → ∃ b', lexGo (z.cps.toList ++ rest) ws b = lexGo rest (ws ++ W) b'
theorem lx_wrs {k : Kd} {f : Nat} : ∀ {ts : List T}, ts ≠ [] → (∀ t ∈ ts, Lx (wr (f : Int) t) (ww f t)) → Lx (wrs k.sep (f : Int) ts) (wws f k.sg ts)
  | [], h, _ => absurd rfl h
  | [t], _, h => by
    rw [wrs_one]
    show Lx _ (ww f t ++ [])
    rw [List.append_nil]
    exact h t (List.mem_singleton.mpr rfl)
  | t :: u :: r, _, h => by
    rw [wrs_two]
    intro rest ws b hb
    obtain ⟨b1, e1⟩ := h t List.mem_cons_self (k.sep.cps.toList ++ ((wrs k.sep (f : Int) (u :: r)).cps.toList ++ rest)) ws b hb
    obtain ⟨b2, e2⟩ := lx_wrs (ts := u :: r) (k := k) (f := f) (by intro z; cases z) (fun t ht => h t (List.mem_cons_of_mem _ ht)) rest (ws ++ ww f t ++ [k.sg]) .blank (.inr rfl)
    refine ⟨b2, ?_⟩
    rw [cps_app, cps_app, List.append_assoc, List.append_assoc, e1, lex_sep, e2]
    congr 1
    show _ = ws ++ (ww f t ++ (k.sg :: (ww f u ++ wwr f k.sg r)))
    simp [wws]
theorem lx_wr : ∀ (d : Nat) {t : T} (f : Nat), TOk NameOk d t → Lx (wr (f : Int) t) (ww f t)
  | d, .num n, f, h => fun rest ws b hb => ⟨.figure, by
      unfold wr ww
      exact lex_num h.num rest ws hb⟩
  | d, .name s, f, h => fun rest ws b hb => ⟨.letter, by
      unfold wr ww
      exact lex_name h.name rest ws hb⟩
  | 0, .gate _ _ _, _, h => h.elim
  | 0, .join _ _, _, h => h.elim
  | d + 1, .gate s n t, f, h => fun rest ws b hb => by
    obtain ⟨h1, h2, h3, h4⟩ := h
    obtain ⟨b', e⟩ := lx_wr d 4 h4 rest (ws ++ ([("[" : Str)] : List Str) ++ [s] ++ [tx n] ++ ([("]" : Str)] : List Str)) .blank (.inr rfl)
    refine ⟨b', ?_⟩
    unfold wr ww
    rw [cps_app, cps_app, cps_app, cps_app, cps_app]
    simp only [List.append_assoc]
    rw [lex_gopen, lex_name h1 _ _ (.inl rfl), lex_sp, lex_num ⟨by omega, h3⟩ _ _ (.inr rfl), lex_gclose]
    rw [show ((4 : Nat) : Int) = 4 from rfl] at e
    rw [e]
    congr 1
    simp
  | d + 1, .join k ts, f, h => fun rest ws b hb => by
    obtain ⟨h1, h2, h3⟩ := h
    have hne : ts ≠ [] := by intro z; subst z; simp at h1
    have L : Lx (wrs k.sep (k.rank + 1) ts) (wws (k.rk + 1) k.sg ts) := by
      have q := lx_wrs (k := k) (f := k.rk + 1) hne fun t ht => lx_wr d (k.rk + 1) (h3 t ht)
      rw [show (((k.rk + 1 : Nat)) : Int) = k.rank + 1 by rw [Kd.rk_rank]; omega] at q
      exact q
    unfold wr ww
    by_cases c : k.rk < f
    · rw [if_pos c, if_pos (by rw [Kd.rk_rank]; omega)]
      obtain ⟨b', e⟩ := L ((")" : Str).cps.toList ++ rest) (ws ++ ([("(" : Str)] : List Str)) .other (.inl rfl)
      refine ⟨.other, ?_⟩
      rw [cps_app, cps_app]
      simp only [List.append_assoc]
      rw [lex_open, e, lex_close]
      congr 1
      simp
    · rw [if_neg c, if_neg (by rw [Kd.rk_rank]; omega)]
      exact L rest ws b hb
theorem lexM_wr {d : Nat} {t : T} (h : TOk NameOk d t) : lexM (wr 0 t) = some (ww 0 t) := by
  obtain ⟨b, e⟩ := lx_wr d 0 h [] [] .blank (.inr rfl)
  unfold lexM
  rw [List.append_nil] at e
  rw [show ((0 : Nat) : Int) = 0 from rfl] at e
  rw [e, List.nil_append]
  unfold lexGo
  rfl
end Aw

namespace Aw
open PySem L2
/-! ### the parser over the words of a written tree -/
def At (ws : List Str) : Nat → List Str → Prop
  | _, [] => True
  | i, a :: r => wd ws i = a ∧ At ws (i + 1) r
theorem At.left {ws : List Str} : ∀ {A B : List Str} {i : Nat}, At ws i (A ++ B) → At ws i A
  | [], _, _, _ => True.intro
  | _ :: A, B, _, h => ⟨h.1, At.left (A := A) (B := B) h.2⟩
theorem At.right {ws : List Str} : ∀ {A B : List Str} {i : Nat}, At ws i (A ++ B) → At ws (i + A.length) B
  | [], _, _, h => h
  | a :: A, B, i, h => by
    have q := At.right (A := A) (B := B) h.2
    rwa [show i + 1 + A.length = i + (a :: A).length by rw [List.length_cons]; omega] at q
theorem At.self (pre : List Str) : ∀ (W : List Str), At (pre ++ W) pre.length W
  | [] => True.intro
  | a :: r => by
    refine ⟨?_, ?_⟩
    · unfold wd
      rw [List.getD_eq_getElem?_getD, List.getElem?_append_right (Nat.le_refl _), Nat.sub_self]
      rfl
    · have q := At.self (pre ++ [a]) r
      rw [List.append_assoc, List.length_append, List.length_singleton] at q
      exact q
def ks : Nat → List Kd
  | 0 => kinds
  | 1 => kinds
  | 2 => [.least, .sum]
  | 3 => [.sum]
  | _ => []
theorem ks_split {f : Nat} {k : Kd} (h : f ≤ k.rk) : ∃ pre, ks f = pre ++ k :: ks (k.rk + 1) ∧ ∀ k' ∈ pre, f ≤ k'.rk := by
  match f, k, h with
  | 0, .most, _ => exact ⟨[], rfl, fun _ h => by cases h⟩
  | 0, .least, _ => exact ⟨[.most], rfl, fun _ h => Nat.zero_le _⟩
  | 0, .sum, _ => exact ⟨[.most, .least], rfl, fun _ h => Nat.zero_le _⟩
  | 1, .most, _ => exact ⟨[], rfl, fun _ h => by cases h⟩
  | 1, .least, _ => exact ⟨[.most], rfl, fun k _ => by cases k <;> decide⟩
  | 1, .sum, _ => exact ⟨[.most, .least], rfl, fun k _ => by cases k <;> decide⟩
  | 2, .most, h => exact absurd h (by decide)
  | 2, .least, _ => exact ⟨[], rfl, fun _ h => by cases h⟩
  | 2, .sum, _ => exact ⟨[.least], rfl, fun k h => by rw [List.mem_singleton.mp h]; decide⟩
  | 3, .most, h => exact absurd h (by decide)
  | 3, .least, h => exact absurd h (by decide)
  | 3, .sum, _ => exact ⟨[], rfl, fun _ h => by cases h⟩
  | n + 4, k, h => cases k <;> exact absurd h (by simp [Kd.rk])
theorem ks_ge {f : Nat} : ∀ {k : Kd}, k ∈ ks f → f ≤ k.rk := by
  intro k h
  match f, h with
  | 0, _ => exact Nat.zero_le _
  | 1, _ => cases k <;> decide
  | 2, h => revert h; cases k <;> decide
  | 3, h => revert h; cases k <;> decide
  | n + 4, h => exact absurd h (by simp [ks])
theorem sg_inj {a b : Kd} (h : a.sg = b.sg) : a = b := by
  revert h
  cases a <;> cases b <;> decide +kernel
theorem chain_stop {ws : List Str} {F : Nat → Option (T × Nat)} {sg : Str} {n : Nat} {ts : List T} {j : Nat} (h : ¬ wd ws j = sg) : chainM ws F sg (n + 1) ts j = some (ts, j) := by
  unfold chainM
  rw [if_neg h]
theorem lift_pre {ws : List Str} {P : Nat → Option (T × Nat)} {ks' : List Kd} {i j : Nat} {t : T} (h : levelM ws P ks' i = some (t, j)) : ∀ {pre : List Kd}, (∀ k ∈ pre, ¬ wd ws j = k.sg) → levelM ws P (pre ++ ks') i = some (t, j)
  | [], _ => h
  | k :: r, hp => by
    have ih := lift_pre h (pre := r) fun k hk => hp k (List.mem_cons_of_mem _ hk)
    rw [List.cons_append]
    unfold levelM
    rw [ih]
    dsimp only
    rw [chain_stop (hp k List.mem_cons_self)]
    rfl
/-- a piece that is no sum, least or most, or stands in brackets -/
theorem lift_piece {ws : List Str} {P : Nat → Option (T × Nat)} {f i j : Nat} {t : T} (h : P i = some (t, j)) (hn : ∀ k : Kd, f ≤ k.rk → ¬ wd ws j = k.sg) : levelM ws P (ks f) i = some (t, j) := by
  have q : levelM ws P [] i = some (t, j) := by unfold levelM; exact h
  have r := lift_pre q (pre := ks f) fun k hk => hn k (ks_ge hk)
  rwa [List.append_nil] at r
/-- the rest of a chain -/
theorem chain_all {ws : List Str} {F : Nat → Option (T × Nat)} {k : Kd} {f : Nat} : ∀ (r : List T) (acc : List T) (j n : Nat), r.length < n → At ws j (wwr f k.sg r) → ¬ wd ws (j + (wwr f k.sg r).length) = k.sg →
    (∀ t ∈ r, ∀ i, At ws i (ww f t) → (wd ws (i + (ww f t).length) = k.sg ∨ i + (ww f t).length = j + (wwr f k.sg r).length) → F i = some (t, i + (ww f t).length)) →
    chainM ws F k.sg n acc j = some (acc ++ r, j + (wwr f k.sg r).length)
  | [], acc, j, n, hn, _, he, _ => by
    cases n with
    | zero => exact absurd hn (Nat.lt_irrefl 0)
    | succ n =>
      rw [List.append_nil]
      exact chain_stop he
  | t :: r, acc, j, n, hn, ha, he, hF => by
    cases n with
    | zero => exact absurd hn (Nat.not_lt_zero _)
    | succ n =>
      have ha' : wd ws j = k.sg ∧ At ws (j + 1) (ww f t ++ wwr f k.sg r) := by unfold wwr at ha; exact ha
      have el : (wwr f k.sg (t :: r)).length = 1 + (ww f t).length + (wwr f k.sg r).length := by
        conv => lhs; unfold wwr
        rw [List.length_cons, List.length_append]; omega
      rw [el] at he hF ⊢
      have e1 : F (j + 1) = some (t, j + 1 + (ww f t).length) := by
        refine hF t List.mem_cons_self (j + 1) ha'.2.left ?_
        cases r with
        | nil => right; show _ = j + (1 + (ww f t).length + 0); omega
        | cons u r =>
          left
          have q := ha'.2.right
          unfold wwr at q
          exact q.1
      unfold chainM
      rw [if_pos ha'.1, e1]
      dsimp only
      have ih := chain_all r (acc ++ [t]) (j + 1 + (ww f t).length) n (by rw [List.length_cons] at hn; omega) ha'.2.right (by
        rwa [show j + 1 + (ww f t).length + (wwr f k.sg r).length = j + (1 + (ww f t).length + (wwr f k.sg r).length) by omega]) (fun u hu i h1 h2 => hF u (List.mem_cons_of_mem _ hu) i h1 (by
        rwa [show j + 1 + (ww f t).length + (wwr f k.sg r).length = j + (1 + (ww f t).length + (wwr f k.sg r).length) by omega] at h2))
      rw [ih, List.append_assoc]
      congr 2
      omega
theorem name_not {s : Str} (h : NameOk s) : ¬ s = "(" ∧ ¬ s = "[" := by
  constructor
  · intro e
    subst e
    exact absurd h (by unfold NameOk; decide +kernel)
  · intro e
    subst e
    exact absurd h (by unfold NameOk; decide +kernel)
/-- a join whose pieces are read, read at its own level -/
theorem join_level {ws : List Str} {P : Nat → Option (T × Nat)} {k : Kd} {ts : List T} {i : Nat} (h2 : 2 ≤ ts.length) (h8 : ts.length ≤ 8) (hl : ts.length ≤ ws.length) (ha : At ws i (wws (k.rk + 1) k.sg ts))
    (hn : ∀ k' : Kd, k.rk ≤ k'.rk → ¬ wd ws (i + (wws (k.rk + 1) k.sg ts).length) = k'.sg)
    (hF : ∀ t ∈ ts, ∀ i, At ws i (ww (k.rk + 1) t) → (∀ k' : Kd, k.rk + 1 ≤ k'.rk → ¬ wd ws (i + (ww (k.rk + 1) t).length) = k'.sg) → levelM ws P (ks (k.rk + 1)) i = some (t, i + (ww (k.rk + 1) t).length)) :
    levelM ws P (k :: ks (k.rk + 1)) i = some (.join k ts, i + (wws (k.rk + 1) k.sg ts).length) := by
  cases ts with
  | nil => exact absurd h2 (by simp)
  | cons t r =>
    have el : (wws (k.rk + 1) k.sg (t :: r)).length = (ww (k.rk + 1) t).length + (wwr (k.rk + 1) k.sg r).length := by
      conv => lhs; unfold wws
      rw [List.length_append]
    have ha' : At ws i (ww (k.rk + 1) t ++ wwr (k.rk + 1) k.sg r) := by unfold wws at ha; exact ha
    rw [el] at hn ⊢
    have other : ∀ {j : Nat}, wd ws j = k.sg → ∀ k' : Kd, k.rk + 1 ≤ k'.rk → ¬ wd ws j = k'.sg := fun e k' hk q => by
      have z := sg_inj (e.symm.trans q)
      subst z
      omega
    have e1 : levelM ws P (ks (k.rk + 1)) i = some (t, i + (ww (k.rk + 1) t).length) := by
      refine hF t List.mem_cons_self i ha'.left ?_
      cases r with
      | nil => exact absurd h2 (by simp)
      | cons u r =>
        have q := ha'.right
        unfold wwr at q
        exact other q.1
    unfold levelM
    rw [e1]
    dsimp only
    have c := chain_all (F := levelM ws P (ks (k.rk + 1))) (k := k) (f := k.rk + 1) r [t] (i + (ww (k.rk + 1) t).length) (ws.length + 1) (by rw [List.length_cons] at hl; omega) ha'.right (by
      rw [Nat.add_assoc]; exact hn k (Nat.le_refl _)) (fun u hu i' h1 h2' => hF u (List.mem_cons_of_mem _ hu) i' h1 (by
        rcases h2' with e | e
        · exact other e
        · rw [e, Nat.add_assoc]
          exact fun k' hk => hn k' (by omega)))
    rw [c]
    dsimp only
    have ej : joinM k ([t] ++ r) = some (.join k (t :: r)) := by
      unfold joinM
      rw [if_neg (by show ¬ 8 < (t :: r).length; omega)]
      cases r with
      | nil => exact absurd h2 (by simp)
      | cons u r => rfl
    rw [ej, Nat.add_assoc]
    rfl
theorem parse_wr {ws : List Str} : ∀ (d D : Nat) {t : T} (f i : Nat), d < D → TOk NameOk d t → ws.length ≥ 3 ∨ d = 0 → At ws i (ww f t) → (∀ k : Kd, f ≤ k.rk → ¬ wd ws (i + (ww f t).length) = k.sg) → levelM ws (pieceM ws D) (ks f) i = some (t, i + (ww f t).length)
  | d, 0, _, _, _, h, _, _, _, _ => absurd h (Nat.not_lt_zero _)
  | d, D + 1, .num n, f, i, hd, h, hw, ha, hn => by
    obtain ⟨h1, h2, h3, h4, h5, h6⟩ := num_facts h.num
    unfold ww at ha hn ⊢
    refine lift_piece ?_ hn
    unfold pieceM
    rw [ha.1, if_neg h5, if_neg h6, h4, if_neg Bool.false_ne_true, h3]
    rfl
  | d, D + 1, .name s, f, i, hd, h, hw, ha, hn => by
    have h1 := h.name
    obtain ⟨h5, h6⟩ := name_not h1
    unfold ww at ha hn ⊢
    refine lift_piece ?_ hn
    unfold pieceM
    rw [ha.1, if_neg h5, if_neg h6, if_pos (show nameM s = true from h1)]
    rfl
  | 0, D + 1, .gate _ _ _, _, _, _, h, _, _, _ => h.elim
  | 0, D + 1, .join _ _, _, _, _, h, _, _, _ => h.elim
  | d + 1, D + 1, .gate s n t, f, i, hd, h, hw, ha, hn => by
    obtain ⟨h1, h2, h3, h4⟩ := h
    unfold ww at ha hn ⊢
    obtain ⟨a1, a2, a3, a4, a5⟩ := ha
    have ih := parse_wr d D (t := t) 4 (i + 1 + 1 + 1 + 1) (by omega) h4 (hw.elim .inl fun z => absurd z (Nat.succ_ne_zero d)) a5 (fun k hk => by cases k <;> exact absurd hk (by decide))
    refine lift_piece ?_ hn
    unfold pieceM
    rw [a1, if_neg (by decide +kernel), if_pos rfl]
    unfold gateM
    rw [a2, if_pos (show nameM s = true from h1), show wd ws (i + 1 + 1) = tx n from a3, bound_facts ⟨h2, h3⟩]
    dsimp only
    rw [if_pos (show wd ws (i + 1 + 2) = "]" from a4)]
    have e : pieceM ws D (i + 1 + 3) = some (t, i + 1 + 1 + 1 + 1 + (ww 4 t).length) := by
      unfold levelM ks at ih
      exact ih
    rw [e]
    refine congrArg (fun j => some (T.gate s n t, j)) ?_
    simp only [List.length_cons]
    omega
  | d + 1, D + 1, .join k ts, f, i, hd, h, hw, ha, hn => by
    obtain ⟨h2, h3, h4⟩ := h
    have hl : ts.length ≤ ws.length := by
      rcases hw with z | z
      · omega
      · cases z
    unfold ww at ha hn ⊢
    by_cases c : k.rk < f
    · rw [if_pos c] at ha hn ⊢
      obtain ⟨a1, a2⟩ := ha
      have aB := a2.left
      have aC := a2.right.1
      refine lift_piece ?_ hn
      unfold pieceM
      rw [a1, if_pos rfl]
      have J := join_level (P := pieceM ws D) (k := k) h2 (by omega) hl aB (fun k' _ e => by
        rw [aC] at e
        cases k' <;> exact absurd e (by decide +kernel)) (fun t ht i' h1 h2' => parse_wr d D (k.rk + 1) i' (by omega) (h4 t ht) (hw.elim .inl fun z => absurd z (Nat.succ_ne_zero d)) h1 h2')
      obtain ⟨pre, ep, hp⟩ := ks_split (f := 0) (k := k) (Nat.zero_le _)
      have Lv := lift_pre J (pre := pre) (fun k' _ e => by
        rw [aC] at e
        cases k' <;> exact absurd e (by decide +kernel))
      rw [← ep] at Lv
      rw [show levelM ws (pieceM ws D) kinds (i + 1) = some (.join k ts, i + 1 + (wws (k.rk + 1) k.sg ts).length) from Lv]
      dsimp only
      rw [if_pos aC]
      congr 2
      rw [List.length_cons, List.length_append, List.length_singleton]
      omega
    · rw [if_neg c] at ha hn ⊢
      have J := join_level (P := pieceM ws (D + 1)) (k := k) h2 (by omega) hl ha (fun k' hk => hn k' (by omega)) (fun t ht i' h1 h2' => parse_wr d (D + 1) (k.rk + 1) i' (by omega) (h4 t ht) (hw.elim .inl fun z => absurd z (Nat.succ_ne_zero d)) h1 h2')
      obtain ⟨pre, ep, hp⟩ := ks_split (f := f) (k := k) (by omega)
      rw [ep]
      exact lift_pre J fun k' hk => hn k' (hp k' hk)
def WB : Nat → Nat
  | 0 => 1
  | d + 1 => 3 * WB d + 4
theorem WB_one : ∀ d, 1 ≤ WB d
  | 0 => Nat.le_refl 1
  | d + 1 => by show 1 ≤ 3 * WB d + 4; omega
theorem wwr_len {f B : Nat} {sg : Str} : ∀ {r : List T}, (∀ t ∈ r, (ww f t).length ≤ B) → (wwr f sg r).length ≤ r.length * (B + 1)
  | [], _ => Nat.zero_le _
  | t :: r, h => by
    unfold wwr
    have ih := wwr_len (sg := sg) (r := r) fun u hu => h u (List.mem_cons_of_mem _ hu)
    have h1 := h t List.mem_cons_self
    rw [List.length_cons, List.length_append, List.length_cons, Nat.add_mul]
    omega
theorem wws_len {f B : Nat} {sg : Str} {t : T} {r : List T} (h : ∀ u ∈ t :: r, (ww f u).length ≤ B) : (wws f sg (t :: r)).length ≤ B + r.length * (B + 1) := by
  unfold wws
  have h1 := h t List.mem_cons_self
  have h2 := wwr_len (sg := sg) (r := r) fun u hu => h u (List.mem_cons_of_mem _ hu)
  rw [List.length_append]
  omega
theorem ww_len : ∀ (d : Nat) {t : T} (f : Nat), TOk NameOk d t → (ww f t).length ≤ WB d
  | d, .num n, f, h => by unfold ww; exact WB_one d
  | d, .name n, f, h => by unfold ww; exact WB_one d
  | 0, .gate _ _ _, _, h => h.elim
  | 0, .join _ _, _, h => h.elim
  | d + 1, .gate s n t, f, h => by
    have e := ww_len d 4 h.2.2.2
    unfold ww
    show _ ≤ 3 * WB d + 4
    simp only [List.length_cons]
    omega
  | d + 1, .join k ts, f, h => by
    obtain ⟨h1, h2, h3⟩ := h
    have e : (wws (k.rk + 1) k.sg ts).length ≤ 3 * WB d + 2 := by
      cases ts with
      | nil => simp at h1
      | cons t r =>
        have q := wws_len (sg := k.sg) (t := t) (r := r) fun u hu => ww_len d (k.rk + 1) (h3 u hu)
        have q2 : r.length * (WB d + 1) ≤ 2 * (WB d + 1) := Nat.mul_le_mul_right _ (by rw [List.length_cons] at h2; omega)
        omega
    unfold ww
    show _ ≤ 3 * WB d + 4
    split
    · rw [List.length_cons, List.length_append, List.length_singleton]; omega
    · omega
theorem ww_pos : ∀ {t : T} (d f : Nat), TOk NameOk d t → 1 ≤ (ww f t).length
  | .num _, d, f, _ => by unfold ww; exact Nat.le_refl 1
  | .name _, d, f, _ => by unfold ww; exact Nat.le_refl 1
  | .gate _ _ _, d, f, _ => by unfold ww; rw [List.length_cons]; omega
  | .join k ts, 0, f, h => h.elim
  | .join k ts, d + 1, f, h => by
    have e : 1 ≤ (wws (k.rk + 1) k.sg ts).length := by
      obtain ⟨h1, h2, h3⟩ := h
      match ts, h1 with
      | t :: u :: r, _ =>
        unfold wws wwr
        rw [List.length_append, List.length_cons]
        omega
    unfold ww
    split
    · rw [List.length_cons]; omega
    · exact e
theorem ww_three {t : T} (d f : Nat) (h : TOk NameOk (d + 1) t) : TOk NameOk 0 t ∨ 3 ≤ (ww f t).length := by
  cases t with
  | num n => exact .inl h
  | name n => exact .inl h
  | gate s n t =>
    right
    unfold ww
    simp only [List.length_cons]
    omega
  | join k ts =>
    right
    obtain ⟨h1, h2, h3⟩ := h
    have e : 3 ≤ (wws (k.rk + 1) k.sg ts).length := by
      match ts, h1, h3 with
      | t :: u :: r, _, h3 =>
        have q1 := ww_pos d (k.rk + 1) (h3 t List.mem_cons_self)
        have q2 := ww_pos d (k.rk + 1) (h3 u (List.mem_cons_of_mem _ List.mem_cons_self))
        unfold wws wwr
        rw [List.length_append, List.length_cons, List.length_append]
        omega
    unfold ww
    split
    · rw [List.length_cons, List.length_append]; omega
    · exact e
theorem sg_ne (k : Kd) : ¬ Str.empty = k.sg := by cases k <;> decide +kernel
theorem read_wr {t : T} (h : TOk NameOk 2 t) : readM (wr 0 t) = some t := by
  have l1 := wr_len (fun s h => (name_facts h).2.1) 2 0 h
  have l2 : (ww 0 t).length ≤ 25 := ww_len 2 0 h
  unfold readM
  rw [if_neg (by have : LB 2 = 134 := rfl; omega), lexM_wr h]
  dsimp only
  rw [if_neg (by omega)]
  have ha : At (ww 0 t) 0 (ww 0 t) := At.self [] (ww 0 t)
  have he : wd (ww 0 t) (0 + (ww 0 t).length) = Str.empty := wd_end (by omega)
  have P : levelM (ww 0 t) (pieceM (ww 0 t) 3) (ks 0) 0 = some (t, 0 + (ww 0 t).length) := by
    rcases ww_three 1 0 h with q | q
    · exact parse_wr 0 3 0 0 (by decide) q (.inr rfl) ha fun k _ e => sg_ne k (he.symm.trans e)
    · exact parse_wr 2 3 0 0 (by decide) h (.inl q) ha fun k _ e => sg_ne k (he.symm.trans e)
  rw [show levelM (ww 0 t) (pieceM (ww 0 t) 3) kinds 0 = _ from P]
  dsimp only
  rw [if_pos he]
end Aw

namespace Aw
open PySem L2
/-! ### any tree that a text is read to: its depth, a bound for its text -/
mutual
def WF : T → Prop
  | .num n => 0 ≤ n ∧ n ≤ 30
  | .name _ => True
  | .gate _ b t => (0 ≤ b ∧ b ≤ 30) ∧ WF t
  | .join _ ts => 0 < ts.length ∧ WFs ts
def WFs : List T → Prop
  | [] => True
  | t :: r => WF t ∧ WFs r
end
mutual
def dep : T → Nat
  | .num _ => 0
  | .name _ => 0
  | .gate _ _ t => dep t + 1
  | .join _ ts => deps ts + 1
def deps : List T → Nat
  | [] => 0
  | t :: r => max (dep t) (deps r)
end
mutual
def Sz : T → Nat
  | .num _ => 2
  | .name s => s.length
  | .gate s _ t => s.length + 8 + Sz t
  | .join _ ts => 2 + Szs ts
def Szs : List T → Nat
  | [] => 0
  | t :: r => Sz t + 3 + Szs r
end
theorem WFs.mem : ∀ {ts : List T} {t : T}, WFs ts → t ∈ ts → WF t
  | _ :: _, _, h, .head _ => h.1
  | _ :: _, _, h, .tail _ m => WFs.mem h.2 m
theorem WFs.of : ∀ {ts : List T}, (∀ t ∈ ts, WF t) → WFs ts
  | [], _ => True.intro
  | t :: r, h => ⟨h t List.mem_cons_self, WFs.of fun u hu => h u (List.mem_cons_of_mem _ hu)⟩
theorem dep_mem : ∀ {ts : List T} {t : T}, t ∈ ts → dep t ≤ deps ts
  | _ :: _, _, .head _ => Nat.le_max_left _ _
  | _ :: _, _, .tail _ m => Nat.le_trans (dep_mem m) (Nat.le_max_right _ _)
theorem deps_le {n : Nat} : ∀ {ts : List T}, (∀ t ∈ ts, dep t ≤ n) → deps ts ≤ n
  | [], _ => Nat.zero_le _
  | t :: r, h => Nat.max_le.mpr ⟨h t List.mem_cons_self, deps_le fun u hu => h u (List.mem_cons_of_mem _ hu)⟩
theorem Sz_mem : ∀ {ts : List T} {t : T}, t ∈ ts → Sz t ≤ Szs ts
  | t :: r, _, .head _ => by show Sz t ≤ Sz t + 3 + Szs r; omega
  | t :: r, u, .tail _ m => by have := Sz_mem m; show Sz u ≤ Sz t + 3 + Szs r; omega
theorem Szs_take : ∀ (ts : List T) (i : Nat), Szs (ts.take i) ≤ Szs ts
  | [], i => by simp
  | t :: r, 0 => Nat.zero_le _
  | t :: r, i + 1 => by have := Szs_take r i; show Sz t + 3 + Szs (r.take i) ≤ Sz t + 3 + Szs r; omega
mutual
theorem wr_Sz : ∀ (t : T) (f : Int), WF t → (wr f t).length ≤ Sz t
  | .num n, f, h => tx_len h
  | .name s, f, h => Nat.le_refl _
  | .gate s b t, f, h => by
    have e := wr_Sz t 4 h.2
    have e2 := tx_len h.1
    unfold wr Sz
    rw [len_app', len_app', len_app', len_app', len_app']
    have c1 : ("[" : Str).length = 1 := by decide +kernel
    have c2 : (" " : Str).length = 1 := by decide +kernel
    have c3 : ("] " : Str).length = 2 := by decide +kernel
    omega
  | .join k ts, f, h => by
    have e := wrs_Sz ts k.sep (k.rank + 1) (sep_len k) h.2
    have c1 : ("(" : Str).length = 1 := by decide +kernel
    have c2 : (")" : Str).length = 1 := by decide +kernel
    unfold wr Sz
    split
    · rw [len_app', len_app']; omega
    · omega
theorem wrs_Sz : ∀ (ts : List T) (sep : Str) (f : Int), sep.length = 3 → WFs ts → (wrs sep f ts).length ≤ Szs ts
  | [], _, _, _, _ => Nat.le_refl _
  | [t], sep, f, _, h => by
    have e := wr_Sz t f h.1
    rw [wrs_one]
    show _ ≤ Sz t + 3 + 0
    omega
  | t :: u :: r, sep, f, hs, h => by
    have e := wr_Sz t f h.1
    have e2 := wrs_Sz (u :: r) sep f hs h.2
    rw [wrs_two, len_app', len_app', hs]
    show _ ≤ Sz t + 3 + Szs (u :: r)
    omega
end
theorem wrs_join (sep : Str) (f : Int) : ∀ ts : List T, wrs sep f ts = Str.join sep (ts.map (wr f))
  | [] => rfl
  | [t] => by rw [wrs_one]; rfl
  | t :: u :: r => by
    rw [wrs_two, wrs_join sep f (u :: r)]
    rfl
theorem sum_Sz (f : Int) : ∀ (ts : List T), WFs ts → ((ts.map (wr f)).map (·.length)).sum + ts.length * 3 ≤ Szs ts
  | [], _ => Nat.le_refl _
  | t :: r, h => by
    have e := sum_Sz f r h.2
    have e1 := wr_Sz t f h.1
    simp only [List.map_cons, List.sum_cons, List.length_cons]
    show _ ≤ Sz t + 3 + Szs r
    omega
/-- the kind in which a piece stands: a gate, or a sum, a least, a most -/
def kfs : Option Kd → Str
  | none => "gate"
  | some k => k.nm
def kff : Option Kd → Int
  | none => 4
  | some k => k.rank + 1
def kinds_of : T → Str
  | .num _ => "number"
  | .name _ => "name"
  | .gate _ _ _ => "gate"
  | .join k _ => k.nm
def bare : Option Kd → List Str
  | none => ["number", "name", "gate"]
  | some .sum => ["number", "name", "gate"]
  | some .least => ["number", "name", "gate", "sum"]
  | some .most => ["number", "name", "gate", "sum", "least"]
/-- what needs no brackets there -/
theorem bare_iff (o : Option Kd) (t : T) : wr (kff o) t = if kinds_of t ∈ bare o then wr 0 t else "(" ++ wr 0 t ++ ")" := by
  have lit : ∀ s ∈ ([("number" : Str), "name", "gate"] : List Str), s ∈ bare o := by
    intro s hs
    cases o with
    | none => exact hs
    | some k => cases k <;> (simp only [bare, List.mem_cons] at hs ⊢; rcases hs with h | h | h | h <;> simp [h] at *)
  cases t with
  | num n => rw [if_pos (lit _ (by simp [kinds_of]))]; unfold wr; rfl
  | name n => rw [if_pos (lit _ (by simp [kinds_of]))]; unfold wr; rfl
  | gate s b t => rw [if_pos (lit _ (by simp [kinds_of]))]; conv => lhs; unfold wr
                  conv => rhs; unfold wr
  | join k ts =>
    have e : (k.nm ∈ bare o) ↔ ¬ k.rank < kff o := by
      revert k
      cases o with
      | none => intro k; cases k <;> decide +kernel
      | some k' => intro k; cases k <;> cases k' <;> decide +kernel
    have ek : kinds_of (.join k ts) = k.nm := rfl
    rw [ek]
    have e0 : wr 0 (.join k ts) = wrs k.sep (k.rank + 1) ts := by
      unfold wr
      rw [if_neg (by cases k <;> decide)]
    rw [e0]
    conv => lhs; unfold wr
    by_cases c : k.rank < kff o
    · rw [if_pos c, if_neg (fun z => e.mp z c)]
    · rw [if_neg c, if_pos (e.mpr c)]
theorem ok_WF : ∀ (d : Nat) {t : T}, TOk NameOk d t → WF t ∧ dep t ≤ d ∧ Sz t ≤ 30 * 4 ^ d
  | d, .num n, h => ⟨h.num, Nat.zero_le _, by
      have := Nat.pow_le_pow_right (n := 4) (by decide) (Nat.zero_le d)
      show 2 ≤ 30 * 4 ^ d
      omega⟩
  | d, .name s, h => ⟨True.intro, Nat.zero_le _, by
      have := Nat.pow_le_pow_right (n := 4) (by decide) (Nat.zero_le d)
      have := (name_facts h.name).2.1
      show s.length ≤ 30 * 4 ^ d
      omega⟩
  | 0, .gate _ _ _, h => h.elim
  | 0, .join _ _, h => h.elim
  | d + 1, .gate s b t, h => by
    obtain ⟨h1, h2, h3, h4⟩ := h
    obtain ⟨a, b', c⟩ := ok_WF d h4
    have l := (name_facts h1).2.1
    have p := Nat.pow_le_pow_right (n := 4) (by decide) (Nat.zero_le d)
    refine ⟨⟨⟨by omega, h3⟩, a⟩, Nat.succ_le_succ b', ?_⟩
    show s.length + 8 + Sz t ≤ 30 * 4 ^ (d + 1)
    rw [Nat.pow_succ]
    omega
  | d + 1, .join k ts, h => by
    obtain ⟨h1, h2, h3⟩ := h
    have p := Nat.pow_le_pow_right (n := 4) (by decide) (Nat.zero_le d)
    refine ⟨⟨by omega, WFs.of fun t ht => (ok_WF d (h3 t ht)).1⟩, Nat.succ_le_succ (deps_le fun t ht => (ok_WF d (h3 t ht)).2.1), ?_⟩
    have g : ∀ (l : List T), (∀ t ∈ l, TOk NameOk d t) → Szs l ≤ l.length * (30 * 4 ^ d + 3) := by
      intro l
      induction l with
      | nil => intro _; exact Nat.zero_le _
      | cons t r ih =>
        intro hl
        have e1 := (ok_WF d (hl t List.mem_cons_self)).2.2
        have e2 := ih fun u hu => hl u (List.mem_cons_of_mem _ hu)
        show Sz t + 3 + Szs r ≤ _
        rw [List.length_cons, Nat.add_mul, Nat.one_mul]
        omega
    have e := g ts h3
    have e2 : ts.length * (30 * 4 ^ d + 3) ≤ 3 * (30 * 4 ^ d + 3) := Nat.mul_le_mul_right _ h2
    show 2 + Szs ts ≤ 30 * 4 ^ (d + 1)
    rw [Nat.pow_succ]
    omega
end Aw

namespace Aw
open PySem L2
/-! ### walks in general: a comprehension's turns over whatever stands still -/
theorem walk_gen {J : It} {n : Nat} {G : Hp → Prop} {Y : Nat → Hp → V → Hp → Prop} (w : Walk J n G Y) {B : V → Hp → (Hp → Prop) → Prop} {Qd : Hp → Prop} {Hs : Hp} (Pv : Nat → Hp → Prop) (h0 : Pv 0 Hs) (hG : ∀ i H, i ≤ n → Pv i H → G H)
    (hs : ∀ i x H H', i < n → Pv i H → Y i H x H' → B x H' (Pv (i + 1))) (hd : ∀ H, Pv n H → Qd H) :
    ∃ W : Nat → Nat → Hp → Prop, (∃ m, W 0 m Hs) ∧ ∀ i m H, W i m H → (J.stop i H ∧ Qd H) ∨ (J.go i H ∧ ∃ Nx : Hp → Prop, (∀ H', Nx H' → ∃ m', m' < m ∧ W (i + 1) m' H') ∧ ∀ x H', J.yld i H x H' → B x H' Nx) := by
  refine ⟨fun i m H => m = n - i ∧ i ≤ n ∧ Pv i H, ⟨n, by simp, Nat.zero_le _, h0⟩, ?_⟩
  rintro i m H ⟨rfl, hi, p⟩
  have q := hG i H hi p
  by_cases hlt : i < n
  · exact .inr ⟨w.goes i H hlt q, Pv (i + 1), fun H' p' => ⟨n - (i + 1), by omega, rfl, hlt, p'⟩, fun x H' y => hs i x H H' hlt p (w.yields i H x H' hlt q y)⟩
  · have e : i = n := by omega
    subst e
    exact .inl ⟨w.stops H q, hd H p⟩
/-! ### the names that stand in a tree -/
mutual
def named : T → List Str
  | .num _ => []
  | .name s => [s]
  | .gate s _ t => s :: named t
  | .join _ ts => nameds ts
def nameds : List T → List Str
  | [] => []
  | t :: r => named t ++ nameds r
end
theorem nameds_take {ts : List T} {i : Nat} {t : T} (h : ts[i]? = some t) : nameds (ts.take (i + 1)) = nameds (ts.take i) ++ named t := by
  rw [take_more h]
  generalize ts.take i = l
  induction l with
  | nil =>
    show named t ++ nameds [] = [] ++ named t
    simp [nameds]
  | cons u r ih =>
    show named u ++ nameds (r ++ [t]) = (named u ++ nameds r) ++ named t
    rw [ih, List.append_assoc]
def NB : Nat → Nat
  | 0 => 1
  | d + 1 => 3 * NB d + 1
theorem NB_one : ∀ d, 1 ≤ NB d
  | 0 => Nat.le_refl 1
  | d + 1 => by show 1 ≤ 3 * NB d + 1; omega
theorem nameds_len {B : Nat} : ∀ {ts : List T}, (∀ t ∈ ts, (named t).length ≤ B) → (nameds ts).length ≤ ts.length * B
  | [], _ => Nat.zero_le _
  | t :: r, h => by
    have ih := nameds_len (ts := r) fun u hu => h u (List.mem_cons_of_mem _ hu)
    have h1 := h t List.mem_cons_self
    show (named t ++ nameds r).length ≤ _
    rw [List.length_append, List.length_cons, Nat.add_mul, Nat.one_mul]
    omega
theorem named_len {P : Str → Prop} : ∀ (d : Nat) {t : T}, TOk P d t → (named t).length ≤ NB d
  | d, .num _, _ => Nat.zero_le _
  | d, .name _, _ => NB_one d
  | 0, .gate _ _ _, h => h.elim
  | 0, .join _ _, h => h.elim
  | d + 1, .gate s n t, h => by
    have e := named_len d h.2.2.2
    show (named t).length + 1 ≤ 3 * NB d + 1
    omega
  | d + 1, .join k ts, h => by
    obtain ⟨h1, h2, h3⟩ := h
    have e := nameds_len (ts := ts) fun t ht => named_len d (h3 t ht)
    have e2 : ts.length * NB d ≤ 3 * NB d := Nat.mul_le_mul_right _ h2
    show (nameds ts).length ≤ 3 * NB d + 1
    omega
theorem NB_le : ∀ {d : Nat}, d ≤ 2 → NB d ≤ 13
  | 0, _ => by decide
  | 1, _ => by decide
  | 2, _ => by decide
  | _ + 3, h => by omega
/-- each once, in the order in which they stand first -/
def addN (acc : List Str) (s : Str) : List Str := if s ∈ acc then acc else acc ++ [s]
def once (l : List Str) : List Str := l.foldl addN []
theorem once_take {l : List Str} {i : Nat} {s : Str} (h : l[i]? = some s) : once (l.take (i + 1)) = addN (once (l.take i)) s := by
  unfold once
  rw [take_more h, List.foldl_append]
  rfl
theorem addN_len (acc : List Str) (s : Str) : (addN acc s).length ≤ acc.length + 1 := by
  unfold addN
  split
  · omega
  · rw [List.length_append, List.length_singleton]; omega
theorem once_len (l : List Str) : (once l).length ≤ l.length := by
  have g : ∀ (l acc : List Str), (l.foldl addN acc).length ≤ acc.length + l.length := by
    intro l
    induction l with
    | nil => intro acc; exact Nat.le_refl _
    | cons s r ih =>
      intro acc
      have h1 := ih (addN acc s)
      have h2 := addN_len acc s
      rw [List.foldl_cons, List.length_cons]
      omega
  have := g l []
  simpa [once] using this
/-- the dict of the names, each with True -/
def nkvs (l : List Str) : List (Key × V) := l.map fun s => (Sum.inr s, .bl true)
theorem nkvs_put (l : List Str) (s : Str) : putK (nkvs l) (Sum.inr s) (.bl true) = nkvs (addN l s) := by
  unfold putK
  have e : ((nkvs l).any fun kv => decide (kv.1 = Sum.inr s)) = decide (s ∈ l) := by
    unfold nkvs
    rw [List.any_map]
    induction l with
    | nil => rfl
    | cons a r ih =>
      rw [List.any_cons, ih]
      show (decide ((Sum.inr a : Key) = Sum.inr s) || decide (s ∈ r)) = decide (s ∈ a :: r)
      by_cases c : a = s
      · subst c; simp
      · have c2 : ¬ (Sum.inr a : Key) = Sum.inr s := by intro z; exact c (Sum.inr.inj z)
        rw [decide_eq_false c2, Bool.false_or]
        have : (s ∈ a :: r) ↔ s ∈ r := by
          rw [List.mem_cons]
          exact ⟨fun h => h.elim (fun z => absurd z.symm c) id, .inr⟩
        exact decide_eq_decide.mpr this.symm
  rw [e]
  unfold addN
  by_cases c : s ∈ l
  · rw [decide_eq_true c, if_pos rfl, if_pos c]
    have : (nkvs l).map (fun kv => if kv.1 = (Sum.inr s : Key) then (kv.1, V.bl true) else kv) = nkvs l := by
      unfold nkvs
      rw [List.map_map]
      apply List.map_congr_left
      intro a _
      show (if (Sum.inr a : Key) = Sum.inr s then ((Sum.inr a : Key), V.bl true) else ((Sum.inr a : Key), V.bl true)) = _
      split <;> rfl
    exact this
  · rw [decide_eq_false c, if_neg Bool.false_ne_true, if_neg c]
    unfold nkvs
    rw [List.map_append]
    rfl
theorem nkvs_keys (l : List Str) : (nkvs l).map (fun kv => kV kv.1) = l.map V.str := by
  unfold nkvs
  rw [List.map_map]
  rfl
theorem dp_strs {K : PySem.W.Frag} {H : Hp} : ∀ (l : List Str), DpAll K H (l.map V.str) (l.map PyData.str)
  | [] => .nil
  | s :: r => .cons (.str s) (dp_strs r)
theorem in_strs (s : Str) (l : List Str) : inV (.str s) (l.map V.str) = decide (s ∈ l) := by
  unfold inV
  rw [List.any_map]
  induction l with
  | nil => rfl
  | cons a r ih =>
    rw [List.any_cons, ih]
    show ((a == s) || decide (s ∈ r)) = decide (s ∈ a :: r)
    by_cases c : a = s
    · subst c; simp
    · have e : (a == s) = false := beq_eq_false_iff_ne.mpr c
      rw [e, Bool.false_or]
      have : (s ∈ a :: r) ↔ s ∈ r := by
        rw [List.mem_cons]
        exact ⟨fun h => h.elim (fun z => absurd z.symm c) id, .inr⟩
      exact decide_eq_decide.mpr this.symm
theorem flat_strs (l : List Str) : (l.map V.str).all flatV = true := by
  rw [List.all_map, List.all_eq_true]
  intro _ _
  rfl
theorem strOk_name {s : Str} (h : NameOk s) : PyData.strOk s = true := by
  unfold NameOk nameM at h
  have q := (Bool.and_eq_true_iff.mp h).2
  have q2 : ∀ c ∈ LET, c < 0x110000 := by decide +kernel
  unfold PyData.strOk
  rw [← Array.all_toList, List.all_eq_true]
  exact fun c hc => decide_eq_true (q2 c (of_decide_eq_true (List.all_eq_true.mp q c hc)))
theorem can_strs : ∀ (l : List Str), (∀ s ∈ l, NameOk s) → PyData.canLayAll0 (l.map PyData.str) = true
  | [], _ => by simp [PyData.canLayAll0]
  | s :: r, h => by
    show (PyData.canLay0 (.str s) && PyData.canLayAll0 (r.map PyData.str)) = true
    rw [can_strs r fun u hu => h u (List.mem_cons_of_mem _ hu), Bool.and_true]
    unfold PyData.canLay0
    exact strOk_name (h s List.mem_cons_self)
theorem depth_strs : ∀ (l : List Str), PyData.depthAll (l.map PyData.str) ≤ 1
  | [] => by show PyData.depthAll [] ≤ 1; unfold PyData.depthAll; omega
  | s :: r => by
    have ih := depth_strs r
    show max (PyData.depth (.str s)) (PyData.depthAll (r.map PyData.str)) ≤ 1
    have e : PyData.depth (.str s) ≤ 1 := by unfold PyData.depth; omega
    omega
theorem shaped_strs {l : List Str} (h : ∀ s ∈ l, NameOk s) : SeqAt.shaped (.list (l.map PyData.str)) = true := by
  unfold SeqAt.shaped
  have e1 : PyData.canLay0 (.list (l.map PyData.str)) = true := by unfold PyData.canLay0; exact can_strs l h
  have e2 : PyData.depth (.list (l.map PyData.str)) ≤ 64 := by
    have := depth_strs l
    unfold PyData.depth
    omega
  rw [e1, decide_eq_true e2]
  rfl
theorem eqv_strs {l : List Str} (h : ∀ s ∈ l, NameOk s) : PyData.eqv (.list (l.map PyData.str)) (.list (l.map PyData.str)) = true := by
  refine SeqAt.eqv_refl _ ?_
  unfold PyData.canLay0
  exact can_strs l h
mutual
theorem named_ok {P : Str → Prop} : ∀ (d : Nat) {t : T}, TOk P d t → ∀ s ∈ named t, P s
  | d, .num _, _, s, hs => by cases hs
  | d, .name z, h, s, hs => by rw [List.mem_singleton.mp hs]; exact h.name
  | 0, .gate _ _ _, h, _, _ => h.elim
  | 0, .join _ _, h, _, _ => h.elim
  | d + 1, .gate z n t, h, s, hs => by
    rcases List.mem_cons.mp hs with q | q
    · rw [q]; exact h.1
    · exact named_ok d h.2.2.2 s q
  | d + 1, .join k ts, h, s, hs => nameds_ok d h.2.2 s hs
theorem nameds_ok {P : Str → Prop} : ∀ (d : Nat) {ts : List T}, (∀ t ∈ ts, TOk P d t) → ∀ s ∈ nameds ts, P s
  | d, [], _, s, hs => by cases hs
  | d, t :: r, h, s, hs => by
    rcases List.mem_append.mp (show s ∈ named t ++ nameds r from hs) with q | q
    · exact named_ok d (h t List.mem_cons_self) s q
    · exact nameds_ok d (fun u hu => h u (List.mem_cons_of_mem _ hu)) s q
end
theorem addN_mem {acc : List Str} {s x : Str} (h : x ∈ addN acc s) : x ∈ acc ∨ x = s := by
  unfold addN at h
  split at h
  · exact .inl h
  · rcases List.mem_append.mp h with q | q
    · exact .inl q
    · exact .inr (List.mem_singleton.mp q)
theorem once_mem {l : List Str} {x : Str} (h : x ∈ once l) : x ∈ l := by
  have g : ∀ (l acc : List Str), x ∈ l.foldl addN acc → x ∈ acc ∨ x ∈ l := by
    intro l
    induction l with
    | nil => intro acc h; exact .inl h
    | cons s r ih =>
      intro acc h
      rcases ih _ h with q | q
      · rcases addN_mem q with z | z
        · exact .inl z
        · exact .inr (z ▸ List.mem_cons_self)
      · exact .inr (List.mem_cons_of_mem _ q)
  rcases g l [] h with q | q
  · cases q
  · exact q
end Aw

namespace Aw
open PySem L2 NdefX LamX
/-! ### what is made while the program runs, and called elsewhere: a thing that may be called, told by what the base holds -/
/-- a thing that may be called: Pre is what must be tracked at a call -/
structure Clo (P : Program) (w : World) (K : PySem.W.Frag) (mg : Str → Option Value) (base : Heap) (CX : CXT) (k : Nat) (f : Addr) (Pre : Hp → Prop) (sp : Sp) : Prop where
  fn : ∀ (h : Heap) (H : Hp), (∀ b o, base.get? b = some o → h.get? b = some o) → HOk P w H h → Pre H → PySem.W.FnAt f h
  run : ∀ (A : Around) (outer : List Env) (s : Shared) (H : Hp) (us : List Value) (vs : List V) (Q : VK) (E : XK), Room k A → Env0 P w K mg base A outer s H → Pre H → Vals vs us → sp vs H Q E →
    codeAny (model P w) A (.call (.ref f) ⟨us, []⟩) (CR CX outer P w H s Q E) s
theorem Clo.imp {P : Program} {w : World} {K : PySem.W.Frag} {mg : Str → Option Value} {base : Heap} {CX : CXT} {k : Nat} {f : Addr} {Pre : Hp → Prop} {sp sp' : Sp} (c : Clo P w K mg base CX k f Pre sp) (h : ∀ vs H Q E, sp' vs H Q E → sp vs H Q E) : Clo P w K mg base CX k f Pre sp' :=
  ⟨c.fn, fun A outer s H us vs Q E hr e0 hp r q => c.run A outer s H us vs Q E hr e0 hp r (h _ _ _ _ q)⟩
theorem Clo.mono {P : Program} {w : World} {K : PySem.W.Frag} {mg : Str → Option Value} {base : Heap} {CX : CXT} {k j : Nat} {f : Addr} {Pre : Hp → Prop} {sp : Sp} (c : Clo P w K mg base CX k f Pre sp) (h : k ≤ j) : Clo P w K mg base CX j f Pre sp :=
  ⟨c.fn, fun A outer s H us vs Q E hr => c.run A outer s H us vs Q E (hr.mono h)⟩
section
variable {X : Cx} {CX : CXT} {k i : Nat} {f : Addr} {Pre : Hp → Prop} {sp : Sp} {E : XK} {x : Str} {p pos : Pos} {e : Expr} {es : List Expr} {t : L2.TA}
/-- a call's end, whatever base it was proved over -/
theorem ep_of {pins : List (Addr × Obj)} {σ : L2.St} {H : Hp} {s : Shared} {Q : VK} {us : List Value} {g : Addr} (hx : Passes CX X E) (I : Inv X pins σ H s) (h : codeAny (model X.prog X.w) X.A (.call (.ref g) ⟨us, []⟩) (CR CX X.stack X.prog X.w H s Q E) s) :
    wpAny (model X.prog X.w) X.A (call (.ref g) us) (EP X pins σ Q) X.xe s := by
  refine wpAny_call (codeAny_mono h fun r s2 hq => ?_)
  match r, hq with
  | .error er, hq => exact hx pins σ H s er s2 I hq
  | .ok (.ret u), hq => exact I.after hq
  | .ok .next, hq => exact False.elim hq
  | .ok .brk, hq => exact False.elim hq
  | .ok .cont, hq => exact False.elim hq
/-- g(e, ..), g a local name that holds such a thing -/
def tClo (i : Nat) (f : Addr) (Pre : Hp → Prop) (sp : Sp) (E : XK) (t : L2.TA) : TE := fun σ H Q => σ[i]? = some (some (.ref f)) ∧ Pre H ∧ t σ H fun vs H1 => Pre H1 ∧ sp vs H1 Q E
theorem pe_clo (F : Clo X.prog X.w X.K X.mg X.base CX k f Pre sp) (hr : Room k X.A) (hx : Passes CX X E) (hN : X.N[i]? = some x) (hv : Vis X.env.scope x) (ha : PA X (e :: es) t)
    (hd : (x == ("__debug__" : Str)) = false := by decide) (hcd : (x == ("__classdict__" : Str)) = false := by decide)
    (he : starEach (e :: es) X.env = (false, eval e X.env) :: starEach es X.env := by rfl) (hpl : (backTo pos (starEach es X.env)).any (·.1) = false := by rfl) :
    PE X (.Call (.Name x p) (e :: es) [] pos) (tClo i f Pre sp E t) := by
  constructor
  intro pins s σ H Q I h
  obtain ⟨hs, hp, ht⟩ := h
  refine wpAny_Call_Name_kw (thn ((pe_var (pos := p) hN hv hd hcd).run pins s σ H (fun v H1 => v = .ref f ∧ H1 = H) I ⟨_, hs, rfl, rfl⟩) fun u sA ⟨v, HA, IA, rA, qA⟩ => ?_)
  obtain ⟨rfl, rfl⟩ := qA
  cases rA
  refine PySem.W.callWith_F (first := []) (F.fn _ _ IA.bk IA.hok hp) (thn (ha.run pos pins sA σ _ _ IA ht) fun us sB ⟨vs, HB, IB, rB, hpB, qB⟩ => ⟨F.fn _ _ IB.bk IB.hok hpB, ?_⟩) he hpl
  exact ep_of hx IB (F.run X.A X.stack sB HB us vs Q E hr IB.env0 hpB rB qB)
end
/-! ### a wider base: what is there now, untracked, and no frame's -/
section
variable {X : Cx} {pins : List (Addr × Obj)} {σ : L2.St} {H : Hp} {s : Shared}
theorem up_base (I : Inv X pins σ H s) (L : List Addr) (hL : ∀ b ∈ L, H b = none ∧ b ∉ frs X.stack) :
    ∃ B : Heap, (∀ b o, X.base.get? b = some o → B.get? b = some o) ∧ (∀ b ∈ L, B.get? b = s.heap.get? b) ∧ Env0 X.prog X.w X.K X.mg B X.A X.stack s H := by
  have e0 := I.env0
  obtain ⟨hide, hh⟩ : ∃ l : List Addr, l = (List.range s.heap.objs.size).filter fun b => !((X.base.get? b).isSome || decide (b ∈ L)) := ⟨_, rfl⟩
  have no : ∀ b, b ∈ hide → X.base.get? b = none ∧ b ∉ L := fun b hb => by
    rw [hh] at hb
    have z := (List.mem_filter.mp hb).2
    simp only [Bool.not_eq_true', Bool.or_eq_false_iff, decide_eq_false_iff_not] at z
    exact ⟨by simpa using z.1, z.2⟩
  have yes : ∀ b o, s.heap.get? b = some o → X.base.get? b = none → b ∉ L → b ∈ hide := fun b o q h1 h2 => by
    rw [hh]
    exact List.mem_filter.mpr ⟨List.mem_range.mpr (Heap.lt_size q), by simp [h1, h2]⟩
  have sub : ∀ b o, X.base.get? b = some o → (PySem.W.hideAll s.heap hide).get? b = some o := fun b o q => PySem.W.hideAll_get hide (e0.bs b o q).1 fun hm => by rw [(no b hm).1] at q; cases q
  have back : ∀ b o, (PySem.W.hideAll s.heap hide).get? b = some o → s.heap.get? b = some o ∧ ((∃ o', X.base.get? b = some o') ∨ b ∈ L) := fun b o q => by
    have z := PySem.W.of_hideAll hide q
    refine ⟨z, ?_⟩
    cases c : X.base.get? b with
    | some o' => exact .inl ⟨o', rfl⟩
    | none =>
      by_cases cl : b ∈ L
      · exact .inr cl
      · rw [PySem.W.hideAll_none hide (yes b o z c cl)] at q
        cases q
  refine ⟨PySem.W.hideAll s.heap hide, sub, fun b hb => ?_, ⟨e0.frames, ⟨e0.mod.kin.keeps sub, e0.mod.glob.keeps sub, ?_, e0.mod.nolimit.keeps sub⟩, fun b o q => ?_, Nat.le_of_eq (PySem.W.hideAll_size _ _), funFrames_none e0.funs fun b hb => ?_, e0.frf, e0.hok, e0.bare⟩⟩
  · cases c : s.heap.get? b with
    | some o => exact PySem.W.hideAll_get hide c fun hm => (no b hm).2 hb
    | none =>
      cases q : (PySem.W.hideAll s.heap hide).get? b with
      | none => rfl
      | some o =>
        have z := PySem.W.of_hideAll hide q
        rw [c] at z
        cases z
  · obtain ⟨mb, hm, hx⟩ := e0.mod.blt
    exact ⟨mb, hm.keeps sub, hx⟩
  · obtain ⟨z, c⟩ := back b o q
    refine ⟨z, ?_⟩
    rcases c with ⟨o', c⟩ | c
    · exact (e0.bs b o' c).2
    · exact (hL b c).1
  · cases q : (PySem.W.hideAll s.heap hide).get? b with
    | none => rfl
    | some o =>
      obtain ⟨_, c⟩ := back b o q
      rcases c with ⟨o', c⟩ | c
      · rw [(e0.funs.mem hb).1] at c
        cases c
      · exact absurd hb (hL b c).2
/-- a cell of the running def is no frame -/
theorem cell_nofr (I : Inv X pins σ H s) (hfn : ∀ y, X.fn y = true) {y : Str} {c : Addr} (e : X.env.cells.lookup y = some c) : H c = none ∧ c ∉ frs X.stack := by
  refine ⟨I.freeC y c e, fun hb => ?_⟩
  rcases List.mem_cons.mp (I.stkSub c hb) with q | q
  · exact I.cne y c e q
  · obtain ⟨_, o, ho, _⟩ := I.ok.funs.mem q
    exact absurd (Nat.lt_of_lt_of_le (Heap.lt_size ho) (I.ok.cab y c (hfn y) e)) (Nat.lt_irrefl _)
end
/-! ### what the captured cells hold, told of the base -/
structure CellsB (base : Heap) (cl : List (Str × Addr)) (fr : List Str) (ws : List (Option V)) : Prop where
  len : ws.length = fr.length
  all : ∀ y c, cl.lookup y = some c → ∃ v, base.IsCell c v
  inj : ∀ x y c, cl.lookup x = some c → cl.lookup y = some c → x = y
  has : ∀ (i : Nat) (y : Str), fr[i]? = some y → ∃ c, cl.lookup y = some c ∧ ∀ v, ws[i]? = some (some v) → ∃ u, RelV v u ∧ base.IsCell c (some u)
theorem CellsB.at_ {P : Program} {w : World} {K : PySem.W.Frag} {mg : Str → Option Value} {base : Heap} {A : Around} {outer : List Env} {s : Shared} {H : Hp} {cl : List (Str × Addr)} {fr : List Str} {ws : List (Option V)} (c : CellsB base cl fr ws) (e0 : Env0 P w K mg base A outer s H) : CellsAt cl fr ws s.heap H := by
  refine ⟨c.len, fun y a e => ?_, c.inj, fun i y e => ?_⟩
  · obtain ⟨v, o, ho, hd⟩ := c.all y a e
    exact ⟨(e0.bs a o ho).2, v, o, (e0.bs a o ho).1, hd⟩
  · obtain ⟨a, ha, hv⟩ := c.has i y e
    refine ⟨a, ha, fun v ev => ?_⟩
    obtain ⟨u, ru, o, ho, hd⟩ := hv v ev
    exact ⟨u, ru, o, (e0.bs a o ho).1, hd⟩
theorem CellsB.of {B h : Heap} {H : Hp} {cl : List (Str × Addr)} {fr : List Str} {ws : List (Option V)} (c : CellsAt cl fr ws h H) (k : ∀ y a, cl.lookup y = some a → B.get? a = h.get? a) : CellsB B cl fr ws := by
  refine ⟨c.len, fun y a e => ?_, c.inj, fun i y e => ?_⟩
  · obtain ⟨_, v, o, ho, hd⟩ := c.all y a e
    exact ⟨v, o, (k y a e).trans ho, hd⟩
  · obtain ⟨a, ha, hv⟩ := c.has i y e
    refine ⟨a, ha, fun v ev => ?_⟩
    obtain ⟨u, ru, o, ho, hd⟩ := hv v ev
    exact ⟨u, ru, o, (k y a ha).trans ho, hd⟩
/-! ### a lambda with parameters -/
structure LF where
  qual : Str
  params : Arguments
  body : Expr
  scope : Scope
  cl : List (Str × Addr)
  pm : Value
  c : Addr
  ctv : Value
abbrev LF.nf (F : LF) : NF := ⟨"<lambda>", F.qual, F.params, [], F.scope, F.cl, F.c⟩
abbrev LF.obj (F : LF) : Obj := PySem.W.kla_obj "<lambda>" F.qual F.params F.body F.scope F.cl F.pm F.c F.ctv
abbrev LPre (c : Addr) (q : Str) : Hp → Prop := fun H => H c = some (CodeO c q)
theorem clo_lam {P : Program} {w : World} {K : PySem.W.Frag} {mg : Str → Option Value} {base : Heap} {CX : CXT} {N ps fr : List Str} {F : LF} {f : Addr} {k : Nat} {sp : Sp} {ws : List (Option V)} (hf : base.get? f = some F.obj) (C : CellsB base F.cl fr ws) (S : NScope N ps fr F.scope)
    (hb : ∀ us : List Value, us.length = ps.length → bindArgs (PySem.W.kla_fn "<lambda>" F.qual F.params F.body F.scope F.cl F.pm (.ref F.c) F.ctv) ⟨us, []⟩ = pure (ps.zip us)) (len : ∀ vs H Q E, sp vs H Q E → vs.length = ps.length)
    (hbody : ∀ (A : Around) (outer : List Env) (s : Shared) (H : Hp) (vs : List V) (Q : VK) (E : XK), Room k (A.deeper (envF F.nf f s.heap.objs.size)) → LPre F.c F.qual H → sp vs H Q E →
      ∃ t, PE (ncx CX P w K mg base N F.nf f A outer s H E) F.body t ∧ t (startF N vs ws) H Q) : Clo P w K mg base CX (k + 1) f (LPre F.c F.qual) sp := by
  refine ⟨fun h H kb hok _ => ⟨_, none, _, #[], kb _ _ hf⟩, fun A outer s H us vs Q E hr e0 hp r hsp => ?_⟩
  have hl := len _ _ _ _ hsp
  have lim : s.heap.NoLimit := e0.mod.nolimit.keeps fun b o e => (e0.bs b o e).1
  have hfs : s.heap.get? f = some F.obj := (e0.bs _ _ hf).1
  refine PySem.W.kla_callFunE hr.depth hfs rfl S.co S.gen rfl (codeO_at e0.hok hp) ?_
  rw [hb us (by rw [← r.length]; exact hl)]
  refine wpAny_pure (wpAny_newFunctionEnv S.nocell (fun ⟨n, _⟩ hy => S.par n (List.of_mem_zip hy).1) (fun hN hns hsb => ⟨lim.fresh _ hsb, ?_⟩) S.kind)
  show codeAny _ _ (.expr F.body (envF F.nf f s.heap.objs.size)) _ _
  have kp : ∀ b o, s.heap.get? b = some o → hN.get? b = some o := fun b o e => hsb.extBut b o (Nat.ne_of_lt (Heap.lt_size e)) (Heap.get?_push_of_some _ e)
  obtain ⟨t, ht, hq⟩ := hbody A outer s H vs Q E (hr.deeper _) hp hsp
  have I : Inv (ncx CX P w K mg base N F.nf f A outer s H E) [] (startF N vs ws) H { s with heap := hN, toks := s.toks + (ps.zip us).length } := inv_startN S hr.hd e0 hl r (C.at_ e0) hns kp
  refine PySem.W.kla_codeExpr (wpAny_mono (ht.run [] _ _ H Q I hq) (fun v sE hE => ?_) fun _ _ hE => hE)
  obtain ⟨y, HE, J, rv, qE⟩ := hE
  exact ⟨y, HE, J.os, J.bare, J.base, J.hok, rv, qE⟩
section
variable {X : Cx} {CX : CXT} {k : Nat} {g : Addr} {gd : FuncData} {ps fr : List Str} {js : List Nat} {cl : List (Str × Addr)} {E : XK} {x : Str} {p pos : Pos} {e : Expr} {es : List Expr} {t : L2.TA}
theorem cells_up {pins : List (Addr × Obj)} {σ : L2.St} {H : Hp} {s : Shared} (I : Inv X pins σ H s) (hfn : ∀ y, X.fn y = true) (cp : Caps X cl fr js) : ∀ b ∈ cl.map (·.2), (∃ y, cl.lookup y = some b) → H b = none ∧ b ∉ frs X.stack := fun b _ ⟨y, e⟩ => cell_nofr I hfn (cp.sub y b e)
/-- the cells that a function captured, as addresses -/
def celsOf (cl : List (Str × Addr)) : List Addr := (cl.map (·.1)).filterMap fun y => cl.lookup y
theorem celsOf_mem {y : Str} {c : Addr} (e : cl.lookup y = some c) : c ∈ celsOf cl := List.mem_filterMap.mpr ⟨y, List.mem_map_of_mem (PySem.mem_of_lookup e), e⟩
theorem celsOf_back {c : Addr} (h : c ∈ celsOf cl) : ∃ y, cl.lookup y = some c := by
  obtain ⟨y, _, e⟩ := List.mem_filterMap.mp h
  exact ⟨y, e⟩
/-- g(e, ..), g a def of the top that will call what the running def has made: its promise may speak of what the captured names hold -/
theorem pe_up {sp : List (Option V) → Sp} (F : ∀ (B : Heap) (ws : List (Option V)), (∀ b o, X.base.get? b = some o → B.get? b = some o) → CellsB B cl fr ws → FnOk X.prog X.w X.K X.mg B CX k g gd ps (sp ws)) (hfn : ∀ y, X.fn y = true) (cp : X.Ok → Caps X cl fr js)
    (hr : Room k X.A) (hg : Gl X x) (hm : X.mg x = some (.ref g)) (hk : PySem.W.keepIn X.K (.ref g) = true) (hb : Binds X.K gd ps []) (hx : Passes CX X E) (ha : PA X (e :: es) t) (hdb : (x == ("__debug__" : Str)) = false := by decide)
    (he : starEach (e :: es) X.env = (false, eval e X.env) :: starEach es X.env := by rfl) (hpl : (backTo pos (starEach es X.env)).any (·.1) = false := by rfl) :
    PE X (.Call (.Name x p) (e :: es) [] pos) (fun σ H Q => t σ H fun vs H1 => sp (js.map (slotAt σ)) vs H1 Q E) := by
  constructor
  intro pins s σ H Q I h
  refine wpAny_Call_Name_kw (ld_glob I hg hm ?_ hdb)
  refine PySem.W.callWith_K (h₀ := X.base) I.ok.mod.kin hk (thn (ha.run pos pins s σ H _ I h) fun us sB ⟨vs, HB, IB, rB, qB⟩ => ⟨IB.kIn, ?_⟩) he hpl
  obtain ⟨B, sub, hL, e0⟩ := up_base IB (celsOf cl) fun b hb => by
    obtain ⟨y, e⟩ := celsOf_back hb
    exact cell_nofr IB hfn ((cp IB.ok).sub y b e)
  have CB : CellsB B cl fr (js.map (slotAt σ)) := .of (cells_of IB (cp IB.ok)) fun y a e => hL a (celsOf_mem e)
  have G := F B _ sub CB
  have hl : us.length = ps.length := by rw [← rB.length]; exact G.len _ _ _ _ qB
  have bd := hb sB us IB.kIn (by rw [List.append_nil]; exact hl)
  rw [List.append_nil] at bd
  exact ep_of hx IB (G.run X.A X.stack sB HB ⟨us, []⟩ us vs Q E hr e0 bd rB qB)
/-- g(e, lambda ..: body) -/
theorem pe_lam2 {T : List (Addr × Str)} {c P : Addr} {sp : Addr → Addr → List (Option V) → Sp} {e1 body : Expr} {t1 : TE} {params : Arguments} {scope : Scope} {lpos : Pos}
    (F : ∀ (B : Heap) (f : Addr) (M : LF) (ws : List (Option V)), M.qual = X.env.qual ++ "<lambda>" → M.params = params → M.body = body → M.scope = scope → (∀ b o, X.base.get? b = some o → B.get? b = some o) → B.get? f = some M.obj → CellsB B M.cl fr ws → FnOk X.prog X.w X.K X.mg B CX k g gd ps (sp f M.c ws))
    (hfn : ∀ y, X.fn y = true) (hfree : ∀ y ∈ scope.names, y.2 = .free → X.env.scope.names.lookup y.1 = some .cell ∨ X.env.scope.names.lookup y.1 = some .free) (hfr : ∀ y ∈ fr, (y, NameKind.free) ∈ scope.names) (hjs : js.map (fun j => X.N[j]?) = fr.map some)
    (hr : Room k X.A) (hg : Gl X x) (hm : X.mg x = some (.ref g)) (hk : PySem.W.keepIn X.K (.ref g) = true) (hb : Binds X.K gd ps []) (hx : Passes CX X E) (h1 : PE X e1 t1)
    (TB : TabB X.base X.mg c P) (hcode : X.env.code = .ref c) (hmT : (P, X.env.qual ++ "<lambda>") ∈ T) (hu : ∀ q ∈ T, q.1 = P → q.2 = X.env.qual ++ "<lambda>") (hdef : defaultsOf params X.env = ([], [])) (hdb : (x == ("__debug__" : Str)) = false := by decide)
    (he : starEach [e1, .Lambda params body scope lpos] X.env = (false, eval e1 X.env) :: (false, eval (.Lambda params body scope lpos) X.env) :: starEach [] X.env := by rfl) :
    PE X (.Call (.Name x p) [e1, .Lambda params body scope lpos] [] pos) (fun σ H Q => t1 σ H fun v1 H1 => Tabs T H1 ∧ ∀ (f c' : Addr) (H2 : Hp), ExtN H1 H2 → Tabs T H2 → LPre c' (X.env.qual ++ "<lambda>") H2 → sp f c' (js.map (slotAt σ)) [v1, .ref f] H2 Q E) := by
  constructor
  intro pins s σ H Q I h
  have hfre : X.Ok → ∀ y ∈ scope.names, y.2 = .free → ∃ c, X.env.cells.lookup y.1 = some c := fun ok y hy e => (hfree y hy e).elim (fun z => ok.has _ (.inl z)) fun z => ok.has _ (.inr z)
  refine wpAny_Call_Name_kw (ld_glob I hg hm ?_ hdb)
  refine PySem.W.callWith_K (h₀ := X.base) I.ok.mod.kin hk ?_ (by rw [he]; rfl) (by rfl)
  rw [he]
  show wpAny _ _ (spliced ((false, eval e1 X.env) :: (false, eval (.Lambda params body scope lpos) X.env) :: backTo pos (starEach [] X.env))) _ _ s
  refine Calls.spliced_cons (thn (h1.run pins s σ H _ I h) fun u sA ⟨v1, HA, IA, rA, hT, qA⟩ => ?_)
  refine Calls.spliced_cons (lam_make2 IA TB hcode hmT hu hT hdef (hfre IA.ok) fun f c' pm' ctv HB sB IB eN TN hf hfN hfs hco => ?_)
  refine Calls.spliced_nil ⟨IB.kIn, ?_⟩
  have cp : Caps X (cloFrom X.env.cells scope.names []) fr js := Caps.made IB.ok hfree hfr hjs
  obtain ⟨B, sub, hL, e0⟩ := up_base IB (f :: celsOf (cloFrom X.env.cells scope.names [])) fun b hb => by
    rcases List.mem_cons.mp hb with z | z
    · rw [z]; exact ⟨hfN, hfs⟩
    · obtain ⟨y, e⟩ := celsOf_back z
      exact cell_nofr IB hfn (cp.sub y b e)
  have CB : CellsB B (cloFrom X.env.cells scope.names []) fr (js.map (slotAt σ)) := .of (cells_of IB cp) fun y a e => hL a (List.mem_cons_of_mem _ (celsOf_mem e))
  have G := F B f ⟨X.env.qual ++ "<lambda>", params, body, scope, cloFrom X.env.cells scope.names [], pm', c', ctv⟩ _ rfl rfl rfl rfl sub ((hL f List.mem_cons_self).trans hf) CB
  have qB := qA f c' HB eN TN hco
  have rB : Vals [v1, .ref f] [u, .ref f] := .cons rA (.cons rfl .nil)
  have hl : ([u, .ref f] : List Value).length = ps.length := by rw [← rB.length]; exact G.len _ _ _ _ qB
  have bd := hb sB [u, .ref f] IB.kIn (by rw [List.append_nil]; exact hl)
  rw [List.append_nil] at bd
  exact ep_of hx IB (G.run X.A X.stack sB HB ⟨[u, .ref f], []⟩ [u, .ref f] [v1, .ref f] Q E hr e0 bd rB qB)
end
end Aw

namespace Aw
open PySem L2
/-! ### a recipe asked: the askings change a state S -/
section
variable {S : Type} (o : S → Str → Int) (n : S → Str → S)
def maxL : List Int → Int
  | [] => 0
  | [x] => x
  | x :: r => max x (maxL r)
mutual
def ans : T → S → Int × S
  | .num k, st => (k, st)
  | .name s, st => (o st s, n st s)
  | .gate s b t, st => if o st s < b then (0, n st s) else ans t (n st s)
  | .join .sum ts, st => (min 30 (anss ts st).1.sum, (anss ts st).2)
  | .join .most ts, st => (maxL (anss ts st).1, (anss ts st).2)
  | .join .least ts, st => ansl ts 30 st
def anss : List T → S → List Int × S
  | [], st => ([], st)
  | t :: r, st => ((ans t st).1 :: (anss r (ans t st).2).1, (anss r (ans t st).2).2)
def ansl : List T → Int → S → Int × S
  | [], cur, st => (cur, st)
  | t :: r, cur, st => if 0 < cur then ansl r (min cur (ans t st).1) (ans t st).2 else (cur, st)
end
theorem anss_snoc : ∀ (ts : List T) (t : T) (st : S), anss o n (ts ++ [t]) st = ((anss o n ts st).1 ++ [(ans o n t (anss o n ts st).2).1], (ans o n t (anss o n ts st).2).2)
  | [], t, st => by
    show anss o n [t] st = _
    unfold anss
    unfold anss
    rfl
  | u :: r, t, st => by
    have ih := anss_snoc r t (ans o n u st).2
    show anss o n (u :: (r ++ [t])) st = _
    unfold anss
    rw [ih]
    rfl
theorem anss_len : ∀ (ts : List T) (st : S), (anss o n ts st).1.length = ts.length
  | [], st => by unfold anss; rfl
  | t :: r, st => by
    unfold anss
    rw [List.length_cons, anss_len r, List.length_cons]
end
theorem maxL_is : ∀ {l : List Int} {m : Int}, m ∈ l → (∀ x ∈ l, x ≤ m) → m = maxL l
  | [x], m, h, _ => List.mem_singleton.mp h
  | x :: y :: r, m, h, hle => by
    show m = max x (maxL (y :: r))
    have g : ∀ (l : List Int), l ≠ [] → maxL l ∈ l := by
      intro l
      induction l with
      | nil => intro z; exact absurd rfl z
      | cons a r ih =>
        intro _
        cases r with
        | nil => exact List.mem_singleton.mpr rfl
        | cons b r =>
          show max a (maxL (b :: r)) ∈ _
          rcases Int.le_total a (maxL (b :: r)) with q | q
          · rw [Int.max_eq_right q]; exact List.mem_cons_of_mem _ (ih (by intro z; cases z))
          · rw [Int.max_eq_left q]; exact List.mem_cons_self
    have hm := g (y :: r) (by intro z; cases z)
    have h1 := hle x List.mem_cons_self
    have h2 := hle _ (List.mem_cons_of_mem _ hm)
    rcases List.mem_cons.mp h with q | q
    · subst q; omega
    · have ih := maxL_is q fun z hz => hle z (List.mem_cons_of_mem _ hz)
      omega
mutual
/-- the names in a tree keep D -/
def Nm (D : Str → Prop) : T → Prop
  | .num _ => True
  | .name s => D s
  | .gate s _ t => D s ∧ Nm D t
  | .join _ ts => Nms D ts
def Nms (D : Str → Prop) : List T → Prop
  | [] => True
  | t :: r => Nm D t ∧ Nms D r
end
theorem Nms.mem {D : Str → Prop} : ∀ {ts : List T} {t : T}, Nms D ts → t ∈ ts → Nm D t
  | _ :: _, _, h, .head _ => h.1
  | _ :: _, _, h, .tail _ m => Nms.mem h.2 m
theorem Nms.of {D : Str → Prop} : ∀ {ts : List T}, (∀ t ∈ ts, Nm D t) → Nms D ts
  | [], _ => True.intro
  | t :: r, h => ⟨h t List.mem_cons_self, Nms.of fun u hu => h u (List.mem_cons_of_mem _ hu)⟩
theorem nm_of {D : Str → Prop} : ∀ (d : Nat) {t : T}, TOk D d t → Nm D t
  | d, .num _, _ => True.intro
  | d, .name s, h => h.name
  | 0, .gate _ _ _, h => h.elim
  | 0, .join _ _, h => h.elim
  | d + 1, .gate s b t, h => ⟨h.1, nm_of d h.2.2.2⟩
  | d + 1, .join k ts, h => Nms.of fun t ht => nm_of d (h.2.2 t ht)
mutual
/-- how often a tree asks at most -/
def cst : T → Nat
  | .num _ => 0
  | .name _ => 1
  | .gate _ _ t => cst t + 1
  | .join _ ts => csts ts
def csts : List T → Nat
  | [] => 0
  | t :: r => csts r + cst t
end
/-- what the askings promise: J k st, as long as k askings are left -/
structure AskOk {S : Type} (o : S → Str → Int) (n : S → Str → S) (D : Str → Prop) (J : Nat → S → Prop) : Prop where
  lo : ∀ k st s, J (k + 1) st → D s → 0 ≤ o st s
  hi : ∀ k st s, J (k + 1) st → D s → o st s ≤ 30
  st : ∀ k st s, J (k + 1) st → D s → J k (n st s)
  dn : ∀ k st, J (k + 1) st → J k st
theorem AskOk.add {S : Type} {o : S → Str → Int} {n : S → Str → S} {D : Str → Prop} {J : Nat → S → Prop} (K : AskOk o n D J) {k : Nat} {st : S} : ∀ j : Nat, J (k + j) st → J k st
  | 0, h => h
  | j + 1, h => K.add j (K.dn _ _ h)
theorem AskOk.le {S : Type} {o : S → Str → Int} {n : S → Str → S} {D : Str → Prop} {J : Nat → S → Prop} (K : AskOk o n D J) {k m : Nat} {st : S} (h : J m st) (hk : k ≤ m) : J k st := K.add (m - k) (by rw [Nat.add_sub_cancel' hk]; exact h)
section
variable {S : Type} {o : S → Str → Int} {n : S → Str → S} {D : Str → Prop} {J : Nat → S → Prop} (K : AskOk o n D J)
include K
theorem sum_nn : ∀ {l : List Int}, (∀ x ∈ l, 0 ≤ x) → 0 ≤ l.sum
  | [], _ => Int.le_refl 0
  | x :: r, h => by
    rw [List.sum_cons]
    have h1 := h x List.mem_cons_self
    have h2 := sum_nn (l := r) fun y hy => h y (List.mem_cons_of_mem _ hy)
    omega
mutual
theorem ans_ok : ∀ (t : T) (k : Nat) (st : S), WF t → Nm D t → J (k + cst t) st → 0 ≤ (ans o n t st).1 ∧ (ans o n t st).1 ≤ 30 ∧ J k (ans o n t st).2
  | .num v, k, st, w, _, i => by unfold ans; exact ⟨w.1, w.2, i⟩
  | .name s, k, st, _, d, i => by unfold ans; exact ⟨K.lo k st s i d, K.hi k st s i d, K.st k st s i d⟩
  | .gate s b t, k, st, w, d, i => by
    have i' : J (k + cst t + 1) st := i
    unfold ans
    split
    · exact ⟨Int.le_refl 0, by omega, K.add _ (K.st _ st s i' d.1)⟩
    · exact ans_ok t k _ w.2 d.2 (K.st _ st s i' d.1)
  | .join .sum ts, k, st, w, d, i => by
    obtain ⟨h1, h2⟩ := anss_ok ts k st w.2 d i
    have h3 := sum_nn K (l := (anss o n ts st).1) fun x hx => (h1 x hx).1
    unfold ans
    exact ⟨by show 0 ≤ min 30 _; omega, by show min 30 _ ≤ 30; omega, h2⟩
  | .join .most ts, k, st, w, d, i => by
    obtain ⟨h1, h2⟩ := anss_ok ts k st w.2 d i
    unfold ans
    have hm : maxL (anss o n ts st).1 ∈ (anss o n ts st).1 := by
      have g : ∀ (l : List Int), l ≠ [] → maxL l ∈ l := by
        intro l
        induction l with
        | nil => intro z; exact absurd rfl z
        | cons a r ih =>
          intro _
          cases r with
          | nil => exact List.mem_singleton.mpr rfl
          | cons b r =>
            show max a (maxL (b :: r)) ∈ _
            rcases Int.le_total a (maxL (b :: r)) with q | q
            · rw [Int.max_eq_right q]; exact List.mem_cons_of_mem _ (ih (by intro z; cases z))
            · rw [Int.max_eq_left q]; exact List.mem_cons_self
      refine g _ fun z => ?_
      have e := anss_len o n ts st
      rw [z] at e
      have := w.1
      simp at e
      omega
    exact ⟨(h1 _ hm).1, (h1 _ hm).2, h2⟩
  | .join .least ts, k, st, w, d, i => by
    unfold ans
    exact ansl_ok ts 30 k st w.2 d i (by decide) (by decide)
theorem anss_ok : ∀ (ts : List T) (k : Nat) (st : S), WFs ts → Nms D ts → J (k + csts ts) st → (∀ x ∈ (anss o n ts st).1, 0 ≤ x ∧ x ≤ 30) ∧ J k (anss o n ts st).2
  | [], k, st, _, _, i => by unfold anss; exact ⟨fun x hx => (by cases hx), i⟩
  | t :: r, k, st, w, d, i => by
    have i' : J (k + csts r + cst t) st := by rw [Nat.add_assoc]; exact i
    obtain ⟨a1, a2, a3⟩ := ans_ok t (k + csts r) st w.1 d.1 i'
    obtain ⟨b1, b2⟩ := anss_ok r k (ans o n t st).2 w.2 d.2 a3
    unfold anss
    refine ⟨fun x hx => ?_, b2⟩
    rcases List.mem_cons.mp hx with q | q
    · rw [q]; exact ⟨a1, a2⟩
    · exact b1 x q
theorem ansl_ok : ∀ (ts : List T) (cur : Int) (k : Nat) (st : S), WFs ts → Nms D ts → J (k + csts ts) st → 0 ≤ cur → cur ≤ 30 → 0 ≤ (ansl o n ts cur st).1 ∧ (ansl o n ts cur st).1 ≤ 30 ∧ J k (ansl o n ts cur st).2
  | [], cur, k, st, _, _, i, h0, h1 => by unfold ansl; exact ⟨h0, h1, i⟩
  | t :: r, cur, k, st, w, d, i, h0, h1 => by
    have i' : J (k + csts r + cst t) st := by rw [Nat.add_assoc]; exact i
    obtain ⟨a1, a2, a3⟩ := ans_ok t (k + csts r) st w.1 d.1 i'
    unfold ansl
    split
    · exact ansl_ok r _ k _ w.2 d.2 a3 (by omega) (by omega)
    · exact ⟨h0, h1, K.add _ i⟩
end
end
theorem csts_drop {ts : List T} {t : T} {i : Nat} (h : ts[i]? = some t) : csts (ts.drop i) = csts (ts.drop (i + 1)) + cst t := by
  have hlt := (List.getElem?_eq_some_iff.mp h).1
  have z := (List.getElem?_eq_some_iff.mp h).2
  rw [List.drop_eq_getElem_cons hlt, z]
  rfl
/-! ### the heap around an asking -/
/-- all but what stands in M -/
def ButS (M : Addr → Prop) (H H' : Hp) : Prop := ∀ b u, H b = some u → ¬ M b → H' b = some u
theorem ButS.refl (M : Addr → Prop) (H : Hp) : ButS M H H := fun _ _ h _ => h
theorem ButS.trans {M : Addr → Prop} {H H1 H2 : Hp} (a : ButS M H H1) (b : ButS M H1 H2) : ButS M H H2 := fun c u h hc => b c u (a c u h hc) hc
theorem ButS.of_same {M : Addr → Prop} {H H1 : Hp} (a : Same H H1) : ButS M H H1 := fun c u h _ => a c u h
/-- what an asking may change: lists that hold no objects, and dicts -/
def MOk (M : Addr → Prop) (H : Hp) : Prop := ∀ b, M b → (∃ xs, H b = some (.lst xs) ∧ ∀ a r, xs ≠ .ref a :: r) ∨ ∃ kvs, H b = some (.dK kvs)
theorem MOk.keep {M : Addr → Prop} {H H' : Hp} (m : MOk M H) (b : ButS M H H') : Keep H H' := by
  refine ⟨fun c xs q => b c _ q fun hc => ?_, fun c a r q => b c _ q fun hc => ?_⟩
  · rcases m c hc with ⟨ys, e, _⟩ | ⟨kvs, e⟩ <;> (rw [q] at e; cases e)
  · rcases m c hc with ⟨ys, e, n⟩ | ⟨kvs, e⟩
    · rw [q] at e; cases e; exact n a r rfl
    · rw [q] at e; cases e
theorem MOk.tups {M : Addr → Prop} {H H' : Hp} (m : MOk M H) (b : ButS M H H') : Tups H H' := (m.keep b).1
theorem MOk.new {M : Addr → Prop} {H : Hp} (m : MOk M H) {a : Addr} (h : H a = none) : ¬ M a := fun hc => by
  rcases m a hc with ⟨xs, e, _⟩ | ⟨kvs, e⟩ <;> (rw [h] at e; cases e)
theorem MOk.code {M : Addr → Prop} {H : Hp} (m : MOk M H) {c : Addr} {q : Str} (h : LPre c q H) : ¬ M c := fun hc => by
  have h : H c = some (LamX.CodeO c q) := h
  unfold LamX.CodeO at h
  rcases m c hc with ⟨xs, e, _⟩ | ⟨kvs, e⟩ <;> (rw [h] at e; cases e)
def minL (l : List Int) : Int := l.foldl min 30
theorem minL_snoc (l : List Int) (x : Int) : minL (l ++ [x]) = min (minL l) x := by
  unfold minL
  rw [List.foldl_append]
  rfl
theorem minL_is {l : List Int} {m : Int} (hm : m ∈ l) (hle : ∀ x ∈ l, m ≤ x) (h30 : ∀ x ∈ l, x ≤ 30) : minL l = m := by
  have g : ∀ (l : List Int) (c : Int), (∀ x ∈ l, m ≤ x) → m ≤ c → (m ∈ l ∨ c = m) → l.foldl min c = m := by
    intro l
    induction l with
    | nil =>
      intro c _ _ h
      rcases h with h | h
      · cases h
      · exact h
    | cons x r ih =>
      intro c h1 h2 h3
      have hx := h1 x List.mem_cons_self
      refine ih (min c x) (fun y hy => h1 y (List.mem_cons_of_mem _ hy)) (by omega) ?_
      rcases h3 with h3 | h3
      · rcases List.mem_cons.mp h3 with z | z
        · right; omega
        · exact .inl z
      · right; omega
  exact g l 30 hle (h30 m hm) (.inl hm)
theorem ansl_zero {S : Type} {o : S → Str → Int} {n : S → Str → S} : ∀ (ts : List T) (st : S), ansl o n ts 0 st = (0, st)
  | [], st => by unfold ansl; rfl
  | t :: r, st => by unfold ansl; rw [if_neg (Int.lt_irrefl 0)]
theorem ansl_cons {S : Type} {o : S → Str → Int} {n : S → Str → S} {t : T} {r : List T} {cur : Int} {st : S} (h : 0 < cur) : ansl o n (t :: r) cur st = ansl o n r (min cur (ans o n t st).1) (ans o n t st).2 := by
  conv => lhs; unfold ansl
  rw [if_pos h]
end Aw

namespace Aw
open PySem L2
def top (i : Nat) : Stmt := PySem.Challenge.pw_anewhall_k02_asked_in_order.main.body.getD i (.Pass ⟨0, 0, 0, 0⟩)
abbrev s_number_piece : Stmt := top 3
/- slots 0:number -/
theorem sc_number_piece : FnScope ["number"] ["number"] (defScope s_number_piece) := ⟨rfl, rfl, rfl, by decide +kernel, rfl, by decide +kernel, by decide +kernel⟩
abbrev s_name_piece : Stmt := top 4
/- slots 0:name -/
theorem sc_name_piece : FnScope ["name"] ["name"] (defScope s_name_piece) := ⟨rfl, rfl, rfl, by decide +kernel, rfl, by decide +kernel, by decide +kernel⟩
abbrev s_gate_piece : Stmt := top 5
/- slots 0:name 1:bound 2:piece -/
theorem sc_gate_piece : FnScope ["name", "bound", "piece"] ["name", "bound", "piece"] (defScope s_gate_piece) := ⟨rfl, rfl, rfl, by decide +kernel, rfl, by decide +kernel, by decide +kernel⟩
abbrev s_joined_piece : Stmt := top 6
/- slots 0:kind 1:pieces -/
theorem sc_joined_piece : FnScope ["kind", "pieces"] ["kind", "pieces"] (defScope s_joined_piece) := ⟨rfl, rfl, rfl, by decide +kernel, rfl, by decide +kernel, by decide +kernel⟩
abbrev s_answer_of : Stmt := top 7
/- slots 0:recipe 1:ask 2:kind 3:answers 4:piece; cells ask -/
theorem sc_answer_of : FnScope ["recipe", "ask", "kind", "answers", "piece"] ["recipe", "ask"] (defScope s_answer_of) := ⟨rfl, rfl, rfl, by decide +kernel, rfl, by decide +kernel, by decide +kernel⟩
abbrev s_gate_answer : Stmt := top 8
/- slots 0:recipe 1:ask 2:_ 3:name 4:bound 5:piece -/
theorem sc_gate_answer : FnScope ["recipe", "ask", "_", "name", "bound", "piece"] ["recipe", "ask"] (defScope s_gate_answer) := ⟨rfl, rfl, rfl, by decide +kernel, rfl, by decide +kernel, by decide +kernel⟩
abbrev s_least_answer : Stmt := top 9
/- slots 0:pieces 1:ask 2:answers 3:piece 4:answer -/
theorem sc_least_answer : FnScope ["pieces", "ask", "answers", "piece", "answer"] ["pieces", "ask"] (defScope s_least_answer) := ⟨rfl, rfl, rfl, by decide +kernel, rfl, by decide +kernel, by decide +kernel⟩
abbrev s_Words_init : Stmt := inClass (top 23) 0
/- slots 0:self 1:words -/
theorem sc_Words_init : FnScope ["self", "words"] ["self", "words"] (defScope s_Words_init) := ⟨rfl, rfl, rfl, by decide +kernel, rfl, by decide +kernel, by decide +kernel⟩
abbrev s_Words_ahead : Stmt := inClass (top 23) 1
/- slots 0:self -/
theorem sc_Words_ahead : FnScope ["self"] ["self"] (defScope s_Words_ahead) := ⟨rfl, rfl, rfl, by decide +kernel, rfl, by decide +kernel, by decide +kernel⟩
abbrev s_Words_taken : Stmt := inClass (top 23) 2
/- slots 0:self 1:word -/
theorem sc_Words_taken : FnScope ["self", "word"] ["self"] (defScope s_Words_taken) := ⟨rfl, rfl, rfl, by decide +kernel, rfl, by decide +kernel, by decide +kernel⟩
abbrev s_Words_expect : Stmt := inClass (top 23) 3
/- slots 0:self 1:word -/
theorem sc_Words_expect : FnScope ["self", "word"] ["self", "word"] (defScope s_Words_expect) := ⟨rfl, rfl, rfl, by decide +kernel, rfl, by decide +kernel, by decide +kernel⟩
abbrev s_read : Stmt := top 24
/- slots 0:text 1:words 2:reader 3:recipe -/
theorem sc_read : FnScope ["text", "words", "reader", "recipe"] ["text"] (defScope s_read) := ⟨rfl, rfl, rfl, by decide +kernel, rfl, by decide +kernel, by decide +kernel⟩
abbrev s_words_of : Stmt := top 25
/- slots 0:text 1:words 2:before 3:sign 4:kind -/
theorem sc_words_of : FnScope ["text", "words", "before", "sign", "kind"] ["text"] (defScope s_words_of) := ⟨rfl, rfl, rfl, by decide +kernel, rfl, by decide +kernel, by decide +kernel⟩
abbrev s_kind_of : Stmt := top 26
/- slots 0:sign -/
theorem sc_kind_of : FnScope ["sign"] ["sign"] (defScope s_kind_of) := ⟨rfl, rfl, rfl, by decide +kernel, rfl, by decide +kernel, by decide +kernel⟩
abbrev s_read_level : Stmt := top 27
/- slots 0:reader 1:level 2:deep 3:kind 4:pieces -/
theorem sc_read_level : FnScope ["reader", "level", "deep", "kind", "pieces"] ["reader", "level", "deep"] (defScope s_read_level) := ⟨rfl, rfl, rfl, by decide +kernel, rfl, by decide +kernel, by decide +kernel⟩
abbrev s_read_piece : Stmt := top 28
/- slots 0:reader 1:deep 2:word 3:piece -/
theorem sc_read_piece : FnScope ["reader", "deep", "word", "piece"] ["reader", "deep"] (defScope s_read_piece) := ⟨rfl, rfl, rfl, by decide +kernel, rfl, by decide +kernel, by decide +kernel⟩
abbrev s_read_gate : Stmt := top 29
/- slots 0:reader 1:deep 2:name 3:bound -/
theorem sc_read_gate : FnScope ["reader", "deep", "name", "bound"] ["reader", "deep"] (defScope s_read_gate) := ⟨rfl, rfl, rfl, by decide +kernel, rfl, by decide +kernel, by decide +kernel⟩
abbrev s_is_name : Stmt := top 30
/- slots 0:text 1:sign -/
theorem sc_is_name : FnScope ["text", "sign"] ["text"] (defScope s_is_name) := ⟨rfl, rfl, rfl, by decide +kernel, rfl, by decide +kernel, by decide +kernel⟩
abbrev s_number_of : Stmt := top 31
/- slots 0:word 1:lowest 2:number -/
theorem sc_number_of : FnScope ["word", "lowest", "number"] ["word", "lowest"] (defScope s_number_of) := ⟨rfl, rfl, rfl, by decide +kernel, rfl, by decide +kernel, by decide +kernel⟩
abbrev s_law_cell_at : Stmt := top 33
/- slots 0:_law_script 1:_law_k -/
theorem sc_law_cell_at : FnScope ["_law_script", "_law_k"] ["_law_script", "_law_k"] (defScope s_law_cell_at) := ⟨rfl, rfl, rfl, by decide +kernel, rfl, by decide +kernel, by decide +kernel⟩
abbrev s_law_dice : Stmt := top 34
/- slots 0:_law_cell -/
theorem sc_law_dice : FnScope ["_law_cell"] ["_law_cell"] (defScope s_law_dice) := ⟨rfl, rfl, rfl, by decide +kernel, rfl, by decide +kernel, by decide +kernel⟩
abbrev s_law_roll : Stmt := top 35
/- slots 0:_law_dice_here 1:_law_most 2:_law_found -/
theorem sc_law_roll : FnScope ["_law_dice_here", "_law_most", "_law_found"] ["_law_dice_here", "_law_most"] (defScope s_law_roll) := ⟨rfl, rfl, rfl, by decide +kernel, rfl, by decide +kernel, by decide +kernel⟩
abbrev s_law_names : Stmt := top 36
/- slots 0:_law_cell 1:_law_many 2:_law_letters 3:_law_size 4:_law_at 5:_law_out 6:_law_k 7:_law_name 8:_law_place 9:_law_step -/
theorem sc_law_names : FnScope ["_law_cell", "_law_many", "_law_letters", "_law_size", "_law_at", "_law_out", "_law_k", "_law_name", "_law_place", "_law_step"] ["_law_cell", "_law_many"] (defScope s_law_names) := ⟨rfl, rfl, rfl, by decide +kernel, rfl, by decide +kernel, by decide +kernel⟩
abbrev s_law_tree : Stmt := top 37
/- slots 0:_law_dice_here 1:_law_names_here 2:_law_deep 3:_law_way 4:_law_name 5:_law_kind 6:_law_many 7:_law_k; cells _law_dice_here _law_names_here _law_deep -/
theorem sc_law_tree : FnScope ["_law_dice_here", "_law_names_here", "_law_deep", "_law_way", "_law_name", "_law_kind", "_law_many", "_law_k"] ["_law_dice_here", "_law_names_here", "_law_deep"] (defScope s_law_tree) := ⟨rfl, rfl, rfl, by decide +kernel, rfl, by decide +kernel, by decide +kernel⟩
abbrev s_law_answer : Stmt := top 38
/- slots 0:_law_tree_here 1:_law_ask 2:_law_found 3:_law_piece; cells _law_ask -/
theorem sc_law_answer : FnScope ["_law_tree_here", "_law_ask", "_law_found", "_law_piece"] ["_law_tree_here", "_law_ask"] (defScope s_law_answer) := ⟨rfl, rfl, rfl, by decide +kernel, rfl, by decide +kernel, by decide +kernel⟩
abbrev s_law_written : Stmt := top 39
/- slots 0:_law_tree_here 1:_law_firm 2:_law_rank 3:_law_sign 4:_law_out 5:_law_piece -/
theorem sc_law_written : FnScope ["_law_tree_here", "_law_firm", "_law_rank", "_law_sign", "_law_out", "_law_piece"] ["_law_tree_here", "_law_firm"] (defScope s_law_written) := ⟨rfl, rfl, rfl, by decide +kernel, rfl, by decide +kernel, by decide +kernel⟩
abbrev s_law_whole : Stmt := top 40
/- slots 0:_law_found -/
theorem sc_law_whole : FnScope ["_law_found"] ["_law_found"] (defScope s_law_whole) := ⟨rfl, rfl, rfl, by decide +kernel, rfl, by decide +kernel, by decide +kernel⟩
abbrev s_law_given : Stmt := top 41
/- slots 0:_law_rows 1:_law_asked 2:_law_name 3:_law_many 4:_law_one; cells _law_name -/
theorem sc_law_given : FnScope ["_law_rows", "_law_asked", "_law_name", "_law_many", "_law_one"] ["_law_rows", "_law_asked", "_law_name"] (defScope s_law_given) := ⟨rfl, rfl, rfl, by decide +kernel, rfl, by decide +kernel, by decide +kernel⟩
abbrev s_law : Stmt := top 42
/- slots 0:_law_script 1:_law_names_here 2:_law_tree_here 3:_law_k 4:_law_cell 5:_law_recipe 6:_law_turn 7:_law_due 8:_law_found 9:_law_mine 10:_law_rows 11:_law_theirs; cells _law_mine _law_rows _law_theirs -/
theorem sc_law : FnScope ["_law_script", "_law_names_here", "_law_tree_here", "_law_k", "_law_cell", "_law_recipe", "_law_turn", "_law_due", "_law_found", "_law_mine", "_law_rows", "_law_theirs"] ["_law_script"] (defScope s_law) := ⟨rfl, rfl, rfl, by decide +kernel, rfl, by decide +kernel, by decide +kernel⟩
end Aw

namespace Aw
open PySem L2
/-- what the top has written that the reading asks: its class, its error, its constants, the built-ins that it calls -/
structure Txt (K : PySem.W.Frag) (mg : Str → Option Value) (C N : Addr) : Prop where
  cl : Cls K C
  nW : NoAttr K C "words"
  nA : NoAttr K C "at"
  mgC : mg "Words" = some (.ref C)
  xN : PySem.W.excIn K N [.type "ValueError", .type "Exception", .type "BaseException", .type "object"] "ValueError.__new__" = true
  gN : mg "NoRecipe" = some (.ref N)
  kN : PySem.W.keepIn K (.ref N) = true
  bN : PySem.W.subIn K (.ref N) (.type "BaseException") = some true
  tN : PySem.W.typeIn K (.ref N) = some (.type "type")
  len : mg "len" = none
  range : mg "range" = none
  str : mg "str" = none
  all : mg "all" = none
  tup : mg "tuple" = none
  gGr : ∃ t, mg "GREATEST" = some (.int 30 t)
  gLet : ∃ t, mg "LETTERS" = some (.str "abcdefghijklmnopqrstuvwxyz" t)
  gFig : ∃ t, mg "FIGURES" = some (.str "0123456789" t)
  gOth : ∃ t, mg "OTHER_WORDS" = some (.str "+&|()[]" t)
  gLN : ∃ t, mg "LONGEST_NAME" = some (.int 6 t)
  gMP : ∃ t, mg "MOST_PIECES" = some (.int 8 t)
  gMW : ∃ t, mg "MOST_WORDS" = some (.int 40 t)
  gMS : ∃ t, mg "MOST_SIGNS" = some (.int 400 t)
  gDe : ∃ t, mg "DEEPEST" = some (.int 2 t)
section
variable {P : Program} {w : World} {K : PySem.W.Frag} {mg : Str → Option Value} {base : Heap} {C N : Addr} {f : Addr} {fd : FuncData}
theorem ok_Winit (F : Fun K "__init__" "Words.__init__" s_Words_init f fd) (T : Txt K mg C N) : FnOk P w K mg base CX0 1 f fd ["self", "words"] (spInit C) := by
  refine F.ok sc_Words_init (fun vs H Q E h => ?_) (fun cdv A outer s H vs Q E hr h => ?_)
  · obtain ⟨p, dx, l, rfl, _⟩ := h
    rfl
  obtain ⟨p, dx, l, rfl, hp, k⟩ := h
  refine ⟨_, pss_cons (ps_fld (pv 0) (pv 1) rfl) (pss_one (ps_fld (pv 0) pe_int rfl)), ?_⟩
  refine ⟨_, rfl, _, rfl, p, C, dx, [], rfl, hp, T.cl, T.nW, (by show 0 < 1000; decide), _, rfl, p, C, dx, _, rfl, upd_same, T.cl, T.nA, (by show 1 < 1000; decide), ?_⟩
  refine k _ upd_same fun b o e hb => ?_
  rw [upd_ne hb, upd_ne hb]
  exact e
theorem ok_ahead (F : Fun K "ahead" "Words.ahead" s_Words_ahead f fd) (T : Txt K mg C N) : FnOk P w K mg base CX0 1 f fd ["self"] (spAhead C) := by
  refine F.ok sc_Words_ahead (fun vs H Q E h => ?_) (fun cdv A outer s H vs Q E hr h => ?_)
  · obtain ⟨p, l, ws, i, rfl, _⟩ := h
    rfl
  obtain ⟨p, l, ws, i, rfl, R, k⟩ := h
  obtain ⟨dx, hp⟩ := R.ob
  refine ⟨_, pss_cons (ps_if (pt_cmpR op_lt (pe_fld (pv 0) rfl) (pe_callB call_len_seq (by rfl) T.len PySem.boot_len (pa_cons (pe_fld (pv 0) rfl) pa_nil)) (nomark _))
      (pss_one (ps_ret (pe_ix ix_list (pe_fld (pv 0) rfl) (pe_fld (pv 0) rfl) (fun _ _ => rfl)))) pss_nil)
    (pss_one (ps_ret pe_str)), ?_⟩
  refine ⟨_, rfl, p, C, dx, _, _, rfl, hp, T.cl, T.nA, rflds_at _ _, _, rfl, p, C, dx, _, _, rfl, hp, T.cl, T.nW, rflds_words _ _, l, _, rfl, .inl (SqL.of R.ls), _, _, rfl, rfl, _, rfl, ?_⟩
  refine ite2 (fun c => ?_) (fun c => ?_)
  · have c' : (i : Int) < (((ws.map V.str).length : Nat) : Int) := of_decide_eq_true c
    rw [List.length_map] at c'
    have hi : i < ws.length := by omega
    refine ⟨_, rfl, p, C, dx, _, _, rfl, hp, T.cl, T.nW, rflds_words _ _, _, rfl, p, C, dx, _, _, rfl, hp, T.cl, T.nA, rflds_at _ _, l, _, _, .str (wd ws i), rfl, rfl, SqL.of R.ls, ?_, k⟩
    exact atI_nat (by rw [List.getElem?_map, wd_get hi] <;> rfl)
  · have c' : ¬ (i : Int) < (((ws.map V.str).length : Nat) : Int) := of_decide_eq_false (Bool.eq_false_iff.mpr c)
    rw [List.length_map] at c'
    have e := wd_end (ws := ws) (i := i) (by omega)
    rw [e] at k
    exact k
theorem ok_taken {g : Addr} {gd : FuncData} (F : Fun K "taken" "Words.taken" s_Words_taken f fd) (T : Txt K mg C N) (FA : Fun K "ahead" "Words.ahead" s_Words_ahead g gd) (bA : Binds K gd ["self"] []) (mA : Meth K C "ahead" g) : FnOk P w K mg base CX0 2 f fd ["self"] (spTaken C) := by
  have GA : FnOk P w K mg base CX0 1 g gd ["self"] (spAhead C) := ok_ahead FA T
  refine F.ok sc_Words_taken (fun vs H Q E h => ?_) (fun cdv A outer s H vs Q E hr h => ?_)
  · obtain ⟨p, l, ws, i, rfl, _⟩ := h
    rfl
  obtain ⟨p, l, ws, i, rfl, R, k⟩ := h
  obtain ⟨dx, hp⟩ := R.ob
  refine ⟨_, pss_cons (ps_set (i := 1) sc_Words_taken.nd rfl (Or.inl rfl) (pe_meth0 (pv 0) T.cl mA GA hr bA .nil pass0))
    (pss_cons (ps_fldaug (pv 0) pe_int in_add)
    (pss_one (ps_ret (pv 1)))), ?_⟩
  refine ⟨_, rfl, p, dx, _, rfl, hp, rflds_no _ _ (by decide +kernel) (by decide +kernel), p, l, ws, i, rfl, R, ?_⟩
  refine ⟨_, rfl, p, C, dx, _, _, rfl, hp, T.cl, T.nA, rflds_at _ _, _, _, rfl, rfl, dx, _, hp, (by rw [rflds_eq]; show 2 < 1000; decide), ?_⟩
  refine ⟨_, rfl, ?_⟩
  have npl : l ≠ p := ne_of R.ls hp (by intro z; cases z)
  refine k _ (But.upd _) ⟨⟨dx, ?_⟩, (by rw [upd_ne npl]; exact R.ls), R.ln⟩
  rw [upd_same, rflds_put l i (by omega)]
end
end Aw

namespace Aw
open PySem L2
section
variable {X : Cx}
/-- xs[i] read for xs[i] op= e -/
theorem get_list : PGet X (rIxL X.K) := by
  intro pins s σ H x y v u Q I rx ry h
  obtain ⟨p, xs, i, z, rfl, rfl, hq, he, q⟩ := h
  cases rx
  obtain ⟨t, rfl⟩ := ry
  obtain ⟨its, r, pl, hz⟩ := I.list hq
  obtain ⟨j, h1, h2, h3, h4, h5⟩ := atI_get he
  obtain ⟨w, ew, rw'⟩ := r.get h2
  have hl := r.length
  have hn := line63
  have fin : EP X pins σ Q w s := ⟨z, H, I, rw', q⟩
  by_cases h0 : 0 ≤ i
  · have hj : i.toNat = j := by
      rw [seqIndex_of h0 h5] at h1
      exact Option.some.inj h1
    exact PySem.wpAny_getItem_list (Q := fun r s' => EP X pins σ Q r s') pl.isList h0 (by omega) (by rw [hj]; simpa using ew) fin
  · have hj : (i + (its.toArray.size : Int)).toNat = j := by
      rw [seqIndex_neg (by omega) h4] at h1
      rw [List.size_toArray, ← hl]
      exact Option.some.inj h1
    exact PySem.wpAny_getItem_list_neg (Q := fun r s' => EP X pins σ Q r s') pl.isList (by omega) (by rw [List.size_toArray] <;> omega) (by omega) (by rw [hj]; simpa using ew) fin
end
section
variable {X : Cx} {x : Str} {pos : Pos}
theorem pe_gI {n : Int} (hm : ∃ t, X.mg x = some (.int n t)) (hg : Gl X x := by rfl) (hd : (x == ("__debug__" : Str)) = false := by decide) : PE X (.Name x pos) (tC (.int n)) := by
  obtain ⟨t, hm⟩ := hm
  exact pe_glob hg hm ⟨_, rfl⟩ hd
theorem pe_gS {z : Str} (hm : ∃ t, X.mg x = some (.str z t)) (hg : Gl X x := by rfl) (hd : (x == ("__debug__" : Str)) = false := by decide) : PE X (.Name x pos) (tC (.str z)) := by
  obtain ⟨t, hm⟩ := hm
  exact pe_glob hg hm ⟨_, rfl⟩ hd
end
theorem find_none {p : Nat → Bool} {n : Nat} (h : ∀ i, i < n → p i = false) : (List.range n).find? p = none := by
  rw [List.find?_eq_none]
  intro x hx
  rw [h x (List.mem_range.mp hx)]
  exact Bool.false_ne_true
theorem find_at {p : Nat → Bool} {n i : Nat} (hi : i < n) (h : ∀ j, j < i → p j = false) (hp : p i = true) : (List.range n).find? p = some i := by
  rw [List.find?_eq_some_iff_getElem]
  refine ⟨hp, i, by simpa using hi, by simp, fun j hj => ?_⟩
  have e := h j hj
  simp [e]
theorem small_tx {i : Int} (h0 : 0 ≤ i) (h1 : i ≤ 1000) : i.natAbs.log2 < 1920 := by
  have e : i.natAbs ≤ 1000 := by omega
  rcases Nat.eq_zero_or_pos i.natAbs with q | q
  · rw [q]; decide
  · have := (Nat.log2_lt (by omega : i.natAbs ≠ 0) (k := 1920)).mpr (Nat.lt_of_le_of_lt e (by decide +kernel))
    exact this
theorem len_sg1 (c : Nat) : (sg1 c).length = 1 := rfl
theorem len_app (a b : Str) : (a ++ b).length = a.length + b.length := by
  show (a.cps ++ b.cps).size = _
  rw [Array.size_append] <;> rfl
theorem big {n : Nat} (h : n ≤ 100000) : n ≤ sizeLine := Nat.le_trans h (by decide)
section
variable {P : Program} {w : World} {K : PySem.W.Frag} {mg : Str → Option Value} {base : Heap} {C N : Addr} {f : Addr} {fd : FuncData}
theorem ok_expect {g : Addr} {gd : FuncData} (F : Fun K "expect" "Words.expect" s_Words_expect f fd) (T : Txt K mg C N) (GT : FnOk P w K mg base CX0 2 g gd ["self"] (spTaken C)) (bA : Binds K gd ["self"] []) (mA : Meth K C "taken" g) : FnOk P w K mg base (L2.CX P w) 3 f fd ["self", "word"] (spExpect C N) := by
  refine F.okX sc_Words_expect (fun vs H Q E h => ?_) (fun cdv A outer s H vs Q E hr h => ?_)
  · obtain ⟨p, l, ws, i, z, rfl, _⟩ := h
    rfl
  obtain ⟨p, l, ws, i, z, rfl, R, hz, hw, k1, k2⟩ := h
  obtain ⟨dx, hp⟩ := R.ob
  refine ⟨_, pss_one (ps_if (pt_cmpR op_ne (pe_meth0 (pv 0) T.cl mA GT hr bA .nil pass0) (pv 1) (nomark _))
      (pss_one (ps_raise (W := fun cls d _ H => E cls d H) rfl (takes_of rfl rfl rfl rfl) (SkE.pmk_own1 PySem.F.excBase_ValueError T.xN T.gN T.kN (raises_own T.bN T.tN) rfl (pe_joined (.cons pe_str (.cons (pe_fmt (pv 1)) (.cons pe_str .nil))))))) pss_nil), ?_⟩
  refine ⟨_, rfl, p, dx, _, rfl, hp, rflds_no _ _ (by decide +kernel) (by decide +kernel), p, l, ws, i, rfl, R, fun H' hb R' => ?_⟩
  refine ⟨_, rfl, rfl, _, rfl, ?_⟩
  by_cases e : wd ws i = z
  · rw [show decide (V.str (wd ws i) = V.str z) = true from decide_eq_true (by rw [e])]
    exact iteF (k1 e H' hb R')
  · rw [show decide (V.str (wd ws i) = V.str z) = false from decide_eq_false (by intro q; cases q; exact e rfl)]
    refine iteT ?_
    refine ⟨_, rfl, ?_, _, rfl, .inl ⟨z, rfl, big (by omega), z, rfl, ?_, _, rfl, ?_, k2 e H' hb⟩⟩
    · rw [len_app]; exact big (by show 0 + 18 ≤ _; decide)
    · rw [len_app, len_app]; exact big (by show 0 + 18 + z.length ≤ _; omega)
    · rw [len_app, len_app, len_app]; exact big (by show 0 + 18 + z.length + 20 ≤ _; omega)
theorem ok_number (F : Fun K "number_of" "number_of" s_number_of f fd) (T : Txt K mg C N) : FnOk P w K mg base (L2.CX P w) 1 f fd ["word", "lowest"] (spNum N) := by
  refine F.okX sc_number_of (fun vs H Q E h => ?_) (fun cdv A outer s H vs Q E hr h => ?_)
  · obtain ⟨z, lo, rfl, _⟩ := h
    rfl
  obtain ⟨z, lo, rfl, h0, h30, k1, k2⟩ := h
  refine ⟨_, pss_cons (ps_for (passes_of rfl) rfl (pi_range2 (by rfl) T.range (pa_cons (pv 1) (pa_cons (pe_op op_add (pe_gI T.gGr) pe_int) pa_nil))) (pg_name (i := 2) sc_number_of.nd rfl (Or.inl rfl))
      (pss_one (ps_if (pt_cmpR op_eq (pv 0) (pe_callTy call_str_int (by rfl) T.str (by decide +kernel) (pa_cons (pv 2) pa_nil)) (nomark _)) (pss_one (ps_ret (pv 2))) pss_nil)))
    (pss_one (ps_raise (W := fun cls d _ H => E cls d H) rfl (takes_of rfl rfl rfl rfl) (pmk_own PySem.F.excBase_ValueError T.xN T.gN T.kN (raises_own T.bN T.tN) rfl))), ?_⟩
  refine ⟨_, rfl, _, _, rfl, rfl, lo, 31, rfl, ⟨by omega, by omega, by omega, by omega⟩, ?_⟩
  refine for_range (lo := lo) (n := (31 - lo).toNat) (fun i σ H' => H' = H ∧ (∃ v : Option V, σ = [some (.str z), some (.int lo), v]) ∧ ∀ j : Nat, j < i → z ≠ tx (lo + (j : Nat))) ⟨rfl, ⟨none, rfl⟩, fun j hj => by omega⟩ ?_ ?_
  · rintro i σ H' hi ⟨rfl, ⟨v, rfl⟩, hn⟩
    refine ⟨_, rfl, _, rfl, _, rfl, small_tx (by omega) (by omega), rfl, _, rfl, ?_⟩
    by_cases e : z = tx (lo + (i : Nat))
    · rw [show decide (V.str z = V.str (toString (lo + (i : Int)))) = true from decide_eq_true (by rw [e]; rfl)]
      refine iteT ?_
      refine ⟨_, rfl, k1 _ ?_⟩
      unfold numM
      rw [find_at hi (fun j hj => decide_eq_false (hn j hj)) (decide_eq_true e)]
      rfl
    · rw [show decide (V.str z = V.str (toString (lo + (i : Int)))) = false from decide_eq_false (by intro q; exact e (V.str.inj q))]
      refine iteF ⟨rfl, ⟨_, rfl⟩, fun j hj => ?_⟩
      rcases Nat.lt_succ_iff_lt_or_eq.mp hj with q | q
      · exact hn j q
      · subst q; exact e
  · rintro σ H' ⟨rfl, ⟨v, rfl⟩, hn⟩
    refine k2 ?_
    unfold numM
    rw [find_none fun j hj => decide_eq_false (hn j hj)]
    rfl
theorem ok_name (F : Fun K "is_name" "is_name" s_is_name f fd) (T : Txt K mg C N) : FnOk P w K mg base CX0 1 f fd ["text"] spName := by
  refine F.ok sc_is_name (fun vs H Q E h => ?_) (fun cdv A outer s H vs Q E hr h => ?_)
  · obtain ⟨z, rfl, _⟩ := h
    rfl
  obtain ⟨z, rfl, hz, k⟩ := h
  refine ⟨_, pss_cons (ps_if (pt_not (pt_chain op_le op_le pe_int (pe_callB call_len_str (by rfl) T.len PySem.boot_len (pa_cons (pv 0) pa_nil)) (pe_gI T.gLN))) (pss_one (ps_ret pe_bl)) pss_nil)
    (pss_one (ps_ret (pe_callB (cr_all rfl) (by rfl) T.all (by decide +kernel) (pa_cons
      (pe_lc (own := [("sign", 1)]) (g := gName 1) rfl sc_is_name.nd (pi_str (pv 0)) (blkOk_by (N := ["text", "sign"]) (sc := defScope s_is_name) (by decide +kernel)) (fun _ _ _ _ _ => pg_name (i := 1) sc_is_name.nd rfl (Or.inl rfl)) (fun _ _ _ _ _ => pts_nil)
        (fun _ _ _ _ _ => pe_cmpR op_in_sign (pv 1) (pe_gS T.gLet) rfl)) pa_nil)))), ?_⟩
  refine ⟨_, rfl, _, rfl, big (by omega), _, _, rfl, rfl, _, rfl, ?_⟩
  by_cases c1 : (1 : Int) ≤ (z.length : Int)
  · rw [show decide ((1 : Int) ≤ (z.length : Int)) = true from decide_eq_true c1]
    refine iteT ⟨_, _, rfl, rfl, _, rfl, ?_⟩
    by_cases c2 : (z.length : Int) ≤ 6
    · rw [show decide ((z.length : Int) ≤ 6) = true from decide_eq_true c2]
      refine iteF ?_
      refine ⟨_, rfl, _, rfl, fun D hD => ?_⟩
      refine lc_it (walk_str (z := z)) (fun i H' => Same H H' ∧ H' D = some (.lst (((z.cps.toList.take i).map fun c => V.bl (decide (c ∈ LET)))))) ?_ (fun _ _ _ _ => trivial) ?_ ?_
      · exact ⟨same_new hD _, upd_same⟩
      · rintro i x H1 H2 hi ⟨s1, e1⟩ ⟨rfl, c, hc, rfl⟩
        have hc' : z.cps.toList[i]? = some c := by rw [Array.getElem?_toList]; exact hc
        have hi' : i < z.length := hi
        refine ⟨rfl, ?_⟩
        refine ⟨_, rfl, c, _, rfl, rfl, _, e1, ?_, ?_⟩
        · rw [List.length_map, List.length_take]
          exact small1000 (by omega)
        · refine ⟨same_upd s1 hD _, ?_⟩
          rw [upd_same, take_more hc', List.map_append]
          rfl
      · rintro H1 ⟨s1, e1⟩
        rw [List.take_of_length_le (by rw [Array.length_toList] <;> exact Nat.le_refl _)] at e1
        refine ⟨D, z.cps.toList.map fun c => decide (c ∈ LET), rfl, SqL.of (by rw [e1, List.map_map] <;> rfl), ?_⟩
        have e : nameM z = ((z.cps.toList.map fun c => decide (c ∈ LET)).all id) := by
          unfold nameM
          rw [decide_eq_true (show 1 ≤ z.length ∧ z.length ≤ 6 by omega), Bool.true_and, List.all_map]
          rfl
        rw [← e]
        exact k H1 s1
    · rw [show decide ((z.length : Int) ≤ 6) = false from decide_eq_false c2]
      refine iteT ?_
      have e : nameM z = false := by
        unfold nameM
        rw [decide_eq_false (show ¬ (1 ≤ z.length ∧ z.length ≤ 6) by omega), Bool.false_and]
      have q := k H (Same.refl H)
      rw [e] at q
      exact q
  · rw [show decide ((1 : Int) ≤ (z.length : Int)) = false from decide_eq_false c1]
    refine iteF ⟨_, rfl, ?_⟩
    refine iteT ?_
    have e : nameM z = false := by
      unfold nameM
      rw [decide_eq_false (show ¬ (1 ≤ z.length ∧ z.length ≤ 6) by omega), Bool.false_and]
    have q := k H (Same.refl H)
    rw [e] at q
    exact q
theorem kind_no {A : Prop} {a b : Str} (h : ¬ a = b) (q : A) : if decide (V.str a = V.str b) = true then False else A := by
  rw [decide_eq_false (by intro z; exact h (V.str.inj z))]
  exact iteF q
theorem ok_kind (F : Fun K "kind_of" "kind_of" s_kind_of f fd) (T : Txt K mg C N) : FnOk P w K mg base (L2.CX P w) 1 f fd ["sign"] (spKind N) := by
  refine F.okX sc_kind_of (fun vs H Q E h => ?_) (fun cdv A outer s H vs Q E hr h => ?_)
  · obtain ⟨z, rfl, _⟩ := h
    rfl
  obtain ⟨c, rfl, k1, k2⟩ := h
  refine ⟨_, pss_cons (ps_if (pt_cmpR op_in_sign (pv 0) (pe_gS T.gLet) rfl) (pss_one (ps_ret pe_str)) pss_nil)
    (pss_cons (ps_if (pt_cmpR op_in_sign (pv 0) (pe_gS T.gFig) rfl) (pss_one (ps_ret pe_str)) pss_nil)
    (pss_cons (ps_if (pt_cmpR op_in_sign (pv 0) (pe_gS T.gOth) rfl) (pss_one (ps_ret pe_str)) pss_nil)
    (pss_cons (ps_if (pt_cmpR op_eq (pv 0) pe_str (nomark _)) (pss_one (ps_ret pe_str)) pss_nil)
    (pss_one (ps_raise (W := fun cls d _ H => E cls d H) rfl (takes_of rfl rfl rfl rfl) (pmk_own PySem.F.excBase_ValueError T.xN T.gN T.kN (raises_own T.bN T.tN) rfl)))))), ?_⟩
  refine ⟨_, rfl, c, _, rfl, rfl, _, rfl, ?_⟩
  by_cases h1 : c ∈ LET
  · rw [show decide (c ∈ (("abcdefghijklmnopqrstuvwxyz" : Str)).cps.toList) = true from decide_eq_true h1]
    refine iteT (k1 .letter ?_)
    unfold kindM; rw [if_pos h1]
  rw [show decide (c ∈ (("abcdefghijklmnopqrstuvwxyz" : Str)).cps.toList) = false from decide_eq_false h1]
  refine iteF ⟨_, rfl, c, _, rfl, rfl, _, rfl, ?_⟩
  by_cases h2 : c ∈ FIG
  · rw [show decide (c ∈ (("0123456789" : Str)).cps.toList) = true from decide_eq_true h2]
    refine iteT (k1 .figure ?_)
    unfold kindM; rw [if_neg h1, if_pos h2]
  rw [show decide (c ∈ (("0123456789" : Str)).cps.toList) = false from decide_eq_false h2]
  refine iteF ⟨_, rfl, c, _, rfl, rfl, _, rfl, ?_⟩
  by_cases h3 : c ∈ OTH
  · rw [show decide (c ∈ (("+&|()[]" : Str)).cps.toList) = true from decide_eq_true h3]
    refine iteT (k1 .other ?_)
    unfold kindM; rw [if_neg h1, if_neg h2, if_pos h3]
  rw [show decide (c ∈ (("+&|()[]" : Str)).cps.toList) = false from decide_eq_false h3]
  refine iteF ⟨_, rfl, rfl, _, rfl, ?_⟩
  by_cases h4 : sg1 c = " "
  · rw [show decide (V.str (sg1 c) = V.str " ") = true from decide_eq_true (by rw [h4])]
    refine iteT (k1 .blank ?_)
    unfold kindM; rw [if_neg h1, if_neg h2, if_neg h3, if_pos h4]
  rw [show decide (V.str (sg1 c) = V.str " ") = false from decide_eq_false (by intro q; exact h4 (V.str.inj q))]
  refine iteF (k2 ?_)
  unfold kindM; rw [if_neg h1, if_neg h2, if_neg h3, if_neg h4]
end
end Aw

namespace Aw
open PySem L2
theorem kn_inj {a b : Kn} (h : a.nm = b.nm) : a = b := by
  revert h
  cases a <;> cases b <;> decide +kernel
theorem kn_dec (a b : Kn) : decide (V.str a.nm = V.str b.nm) = decide (a = b) := by
  cases a <;> cases b <;> decide +kernel
theorem kn_in (k : Kn) : inV (.str k.nm) [.str "letter", .str "figure"] = decide (k = .letter ∨ k = .figure) := by
  cases k <;> decide +kernel
theorem kn_blank (k : Kn) : (!decide (V.str k.nm = V.str "blank")) = decide (k ≠ .blank) := by
  cases k <;> decide +kernel
theorem ixN_last {n : Nat} (h0 : 0 < n) : ixN n (-1) = some (n - 1) := by
  unfold ixN
  rw [if_neg (by omega), if_pos (by omega)]
  exact congrArg some (by omega)
theorem at_last {xs : List V} {v : V} (h : xs[xs.length - 1]? = some v) (h0 : 0 < xs.length) : atI xs (-1) = some v := by
  unfold atI
  rw [ixN_last h0]
  exact h
theorem map_addLast {ws : List Str} {c : Nat} : (ws.map V.str).set (ws.length - 1) (.str (wd ws (ws.length - 1) ++ sg1 c)) = (addLast ws c).map V.str := by
  unfold addLast
  rw [List.map_set]
/-- what holds of the words between two signs -/
structure LexOk (z : Str) (i : Nat) (ws : List Str) (b : Kn) : Prop where
  go : lexGo (z.cps.toList.drop i) ws b = lexM z
  ne : b = .letter ∨ b = .figure → 0 < ws.length
  ln : ws.length ≤ i
  wl : ∀ w ∈ ws, w.length ≤ i
theorem mem_addLast {ws : List Str} {c : Nat} {w : Str} {i : Nat} (hw : ∀ w ∈ ws, w.length ≤ i) (h : w ∈ addLast ws c) : w.length ≤ i + 1 := by
  unfold addLast at h
  rcases List.mem_or_eq_of_mem_set h with q | q
  · exact Nat.le_succ_of_le (hw _ q)
  · subst q
    rw [len_app, len_sg1]
    rcases Nat.lt_or_ge (ws.length - 1) ws.length with q | q
    · exact Nat.succ_le_succ (hw _ (List.mem_of_getElem? (wd_get q)))
    · rw [wd_end (by omega)]
      show 0 + 1 ≤ i + 1
      omega
theorem LexOk.step {z : Str} {i c : Nat} {ws : List Str} {b k : Kn} (h : LexOk z i ws b) (hc : z.cps.toList[i]? = some c) (hk : kindM c = some k) : LexOk z (i + 1) (lexStep (ws, b) c k) k := by
  have hi : i < z.cps.toList.length := (List.getElem?_eq_some_iff.mp hc).1
  have e : z.cps.toList.drop i = c :: z.cps.toList.drop (i + 1) := by
    rw [List.drop_eq_getElem_cons hi]
    have : z.cps.toList[i] = c := by
      have q := List.getElem?_eq_getElem hi
      rw [hc] at q
      exact (Option.some.inj q).symm
    rw [this]
  have g := h.go
  rw [e] at g
  unfold lexGo at g
  rw [hk] at g
  have wl := h.wl
  have ln := h.ln
  have ne := h.ne
  refine ⟨g, ?_, ?_, ?_⟩
  · intro hb
    unfold lexStep
    by_cases h1 : k = b ∧ (k = .letter ∨ k = .figure)
    · rw [if_pos h1]
      unfold addLast
      rw [List.length_set]
      exact ne (h1.1 ▸ h1.2)
    · rw [if_neg h1, if_pos (by intro z; subst z; rcases hb with q | q <;> cases q)]
      rw [List.length_append]
      exact Nat.lt_of_lt_of_le Nat.zero_lt_one (Nat.le_add_left _ _)
  · unfold lexStep
    dsimp only
    split
    · unfold addLast
      rw [List.length_set]; omega
    · split
      · rw [List.length_append, List.length_singleton]; omega
      · omega
  · intro w hw
    unfold lexStep at hw
    dsimp only at hw
    split at hw
    · exact mem_addLast wl hw
    · split at hw
      · rcases List.mem_append.mp hw with q | q
        · exact Nat.le_succ_of_le (wl _ q)
        · rw [List.mem_singleton.mp q, len_sg1]; omega
      · exact Nat.le_succ_of_le (wl _ hw)
theorem LexOk.none {z : Str} {i c : Nat} {ws : List Str} {b : Kn} (h : LexOk z i ws b) (hc : z.cps.toList[i]? = some c) (hk : kindM c = none) : lexM z = none := by
  have hi : i < z.cps.toList.length := (List.getElem?_eq_some_iff.mp hc).1
  have e : z.cps.toList.drop i = c :: z.cps.toList.drop (i + 1) := by
    rw [List.drop_eq_getElem_cons hi]
    have : z.cps.toList[i] = c := by
      have q := List.getElem?_eq_getElem hi
      rw [hc] at q
      exact (Option.some.inj q).symm
    rw [this]
  have g := h.go
  rw [e] at g
  unfold lexGo at g
  rw [hk] at g
  exact g.symm
section
variable {P : Program} {w : World} {K : PySem.W.Frag} {mg : Str → Option Value} {base : Heap} {C N : Addr} {f : Addr} {fd : FuncData}
theorem ok_words {g : Addr} {gd : FuncData} (F : Fun K "words_of" "words_of" s_words_of f fd) (T : Txt K mg C N) (GK : FnOk P w K mg base (L2.CX P w) 1 g gd ["sign"] (spKind N)) (bK : Binds K gd ["sign"] []) (kK : PySem.W.keepIn K (.ref g) = true) (mK : mg "kind_of" = some (.ref g)) :
    FnOk P w K mg base (L2.CX P w) 2 f fd ["text"] (spWords N) := by
  refine F.okX sc_words_of (fun vs H Q E h => ?_) (fun cdv A outer s H vs Q E hr h => ?_)
  · obtain ⟨z, rfl, _⟩ := h
    rfl
  obtain ⟨z, rfl, hz, k1, k2⟩ := h
  have nd := sc_words_of.nd
  refine ⟨_, pss_cons (ps_set (i := 1) nd rfl (.inl rfl) (pe_lst pa_nil))
    (pss_cons (ps_set (i := 2) nd rfl (.inl rfl) pe_str)
    (pss_cons (ps_for (passes_of rfl) rfl (pi_str (pv 0)) (pg_name (i := 3) nd rfl (.inl rfl))
      (pss_cons (ps_set (i := 4) nd rfl (.inl rfl) (pe_call (E := E) GK hr rfl mK kK bK .nil (passes_call (W := fun cls d _ H => E cls d H) (takes_of rfl rfl rfl rfl) (fun _ _ _ _ h => h)) (pa_cons (pv 3) pa_nil)))
      (pss_cons (ps_if (PW.pt (pw_and (pt_cmpR op_eq (pv 4) (pv 2) (nomark _)) (pw_and1 (pt_cmpR op_in_seq (pv 4) (pe_tup (pa_cons pe_str (pa_cons pe_str pa_nil))) rfl))))
        (pss_one (ps_augS (pv 1) (pe_un un_neg pe_int) get_list (pv 3) in_addS set_list))
        (pss_one (ps_if (pt_cmpR op_ne (pv 4) pe_str (nomark _)) (pss_one (ps_expr (pe_bm PySem.F.plainAttrs_list PySem.F.slot_list_append PySem.F.type_list_append mt_append (pv 1) (pa_cons (pv 3) pa_nil)))) pss_nil)))
      (pss_one (ps_set (i := 2) nd rfl (.inl rfl) (pv 4))))))
    (pss_one (ps_ret (pv 1))))), ?_⟩
  refine ⟨(by show 0 ≤ sizeLine; decide), fun l hl => ?_⟩
  refine ⟨_, rfl, _, rfl, ?_⟩
  refine for_it (walk_str (z := z)) (fun i σ H' => ∃ (ws : List Str) (b : Kn) (v3 v4 : Option V), σ = [some (.str z), some (.ref l), some (.str b.nm), v3, v4] ∧ Same H H' ∧ H' l = some (.lst (ws.map V.str)) ∧ LexOk z i ws b)
    ⟨[], .blank, none, none, rfl, same_new hl _, upd_same, ⟨rfl, (by intro q; rcases q with q | q <;> cases q), Nat.le_refl _, fun _ h => by cases h⟩⟩ (fun _ _ _ _ _ => trivial) ?_ ?_
  · rintro i x σ H1 H2 hi ⟨ws, b, v3, v4, rfl, s1, e1, L⟩ ⟨rfl, c, hc, rfl⟩
    have hc' : z.cps.toList[i]? = some c := by rw [Array.getElem?_toList]; exact hc
    have hi' : i < z.length := hi
    refine ⟨_, rfl, c, rfl, fun k hk => ?_, fun hk => k2 (L.none hc' hk) _ s1⟩
    have L' := L.step hc' hk
    have wl := L.wl
    have ln := L.ln
    -- the two other ways: append, or nothing
    have other : ¬ (k = b ∧ (k = .letter ∨ k = .figure)) → ∀ H3, Same H H3 → H3 l = some (.lst (ws.map V.str)) → ∀ D : Ends, (∀ H4, Same H H4 → H4 l = some (.lst ((lexStep (ws, b) c k).map V.str)) → D.nx [some (.str z), some (.ref l), some (.str b.nm), some (.str (sg1 c)), some (.str k.nm)] H4) →
        (tIfS (tTest (tOp rNe (tVar 4) (tC (.str "blank")))) (tDrop (tBM K "list" (rAppend) (tVar 1) (tCons (tVar 3) tNil))) tNext) D [some (.str z), some (.ref l), some (.str b.nm), some (.str (sg1 c)), some (.str k.nm)] H3 := by
      intro hn H3 s3 e3 D q
      refine ⟨_, rfl, rfl, _, rfl, ?_⟩
      rw [kn_blank]
      unfold lexStep at q
      rw [if_neg hn] at q
      by_cases hb : k = .blank
      · rw [decide_eq_false (not_not_intro hb)]
        rw [if_neg (not_not_intro hb)] at q
        exact iteF (q H3 s3 e3)
      · rw [decide_eq_true hb]
        rw [if_pos hb] at q
        refine iteT ⟨_, rfl, .inl ⟨rfl, _, SqL.of e3⟩, _, rfl, l, _, _, rfl, rfl, e3, ?_, ?_⟩
        · rw [List.length_map]; exact small1000 (by omega)
        · refine q _ (same_upd s3 hl _) ?_
          rw [upd_same, List.map_append]
          rfl
    refine ⟨_, rfl, _, rfl, rfl, _, rfl, ?_⟩
    rw [kn_dec]
    by_cases hkb : k = b
    · rw [decide_eq_true hkb]
      refine iteT ⟨_, rfl, (by show 2 ≤ sizeLine; decide), fun p hp => ?_⟩
      refine ⟨p, _, rfl, .inr (SqT.of upd_same), rfl, rfl, _, rfl, ?_⟩
      rw [show (if false = true then !inV (V.str k.nm) [.str "letter", .str "figure"] else inV (V.str k.nm) [.str "letter", .str "figure"]) = decide (k = .letter ∨ k = .figure) from kn_in k]
      have npl : l ≠ p := ne_of_none e1 hp
      by_cases h2 : k = .letter ∨ k = .figure
      · rw [decide_eq_true h2]
        refine iteT ?_
        have h0 : 0 < ws.length := L.ne (hkb ▸ h2)
        have hw : wd ws (ws.length - 1) ∈ ws := List.mem_of_getElem? (wd_get (by omega))
        refine ⟨_, rfl, _, rfl, l, _, _, _, rfl, rfl, SqL.of (by rw [upd_ne npl]; exact e1), at_last (v := .str (wd ws (ws.length - 1))) ?_ (by rw [List.length_map]; exact h0), _, rfl, _, _, rfl, rfl, ?_, l, _, _, ws.length - 1, rfl, rfl, (by rw [upd_ne npl]; exact e1), ?_, ?_⟩
        · rw [List.length_map, List.getElem?_map, wd_get (by omega)]
          rfl
        · have := wl _ hw
          exact big (by show (wd ws (ws.length - 1)).length + 1 ≤ 100000; omega)
        · rw [List.length_map]; exact ixN_last h0
        · have el : lexStep (ws, b) c k = addLast ws c := by
            unfold lexStep
            rw [if_pos ⟨hkb, h2⟩]
          refine ⟨_, rfl, ?_⟩
          refine ⟨addLast ws c, k, _, _, rfl, same_upd (same_upd s1 (s1.free hp) _) hl _, (by rw [upd_same]; exact congrArg (fun l => some (HO.lst l)) map_addLast), ?_⟩
          rw [el] at L'
          exact L'
      · rw [decide_eq_false h2]
        refine iteF ?_
        exact other (fun q => h2 q.2) _ (same_upd s1 (s1.free hp) _) (by rw [upd_ne npl]; exact e1) _ fun H4 s4 e4 => ⟨_, rfl, _, k, _, _, rfl, s4, e4, L'⟩
    · rw [decide_eq_false hkb]
      refine iteF ?_
      exact other (fun q => hkb q.1) _ s1 e1 _ fun H4 s4 e4 => ⟨_, rfl, _, k, _, _, rfl, s4, e4, L'⟩
  · rintro σ H1 ⟨ws, b, v3, v4, rfl, s1, e1, L⟩
    refine ⟨_, rfl, k1 ws ?_ l _ s1 hl e1⟩
    have g := L.go
    rw [List.drop_of_length_le (by rw [Array.length_toList] <;> exact Nat.le_refl _)] at g
    exact g.symm
end
end Aw

namespace Aw
open PySem L2
/-! ### the pieces' makers -/
def spNumP : Sp := fun vs H Q _ => ∃ n, vs = [.int n] ∧ ∀ v H', Same H H' → TA H' v (.num n) → Q v H'
def spNameP : Sp := fun vs H Q _ => ∃ s, vs = [.str s] ∧ ∀ v H', Same H H' → TA H' v (.name s) → Q v H'
def spGateP : Sp := fun vs H Q _ => ∃ s b v t, vs = [.str s, .int b, v] ∧ TA H v t ∧ ∀ v' H', Same H H' → TA H' v' (.gate s b t) → Q v' H'
def spJoinP : Sp := fun vs H Q _ => ∃ (k : Kd) (l : Addr) (xs : List V) (ts : List T), vs = [.str k.nm, .ref l] ∧ H l = some (.lst xs) ∧ TAs H xs ts ∧ ∀ v' H', Same H H' → TA H' v' (.join k ts) → Q v' H'
def spGate (C N : Addr) (f : List Str → Nat → Option (T × Nat)) (dp : Int) : Sp := fun vs H Q E => ∃ p l ws i, vs = [.ref p, .int dp] ∧ RdAt C p l ws i H ∧ WsOk ws ∧ RdOut C N p l ws H Q E (gateM ws (f ws) i)
/-- the constants that are objects of the top -/
structure TxtC (K : PySem.W.Frag) (mg : Str → Option Value) (w : World) : Prop where
  gLv : ∃ a, mg "LEVELS" = some (.ref a) ∧ ∀ H, SqT K H a [.str "most", .str "least", .str "sum"]
  gSg : ∃ a, mg "SIGNS" = some (.ref a) ∧ ∀ k : Kd, KDct K w a k.nm (.str k.sg)
def Adv (f : List Str → Nat → Option (T × Nat)) : Prop := ∀ ws i t j, f ws i = some (t, j) → i < j
theorem chain_adv {ws : List Str} {f : Nat → Option (T × Nat)} (ha : ∀ i t j, f i = some (t, j) → i < j) {sg : Str} : ∀ (n : Nat) {ts ts' : List T} {j j' : Nat}, chainM ws f sg n ts j = some (ts', j') → j ≤ j'
  | 0, _, _, _, _, h => by simp [chainM] at h
  | n + 1, ts, ts', j, j', h => by
    unfold chainM at h
    by_cases c : wd ws j = sg
    · rw [if_pos c] at h
      cases e : f (j + 1) with
      | none => rw [e] at h; cases h
      | some r =>
        obtain ⟨t, k⟩ := r
        rw [e] at h
        have h1 := ha _ _ _ e
        have h2 := chain_adv ha n h
        omega
    · rw [if_neg c] at h
      cases h
      exact Nat.le_refl _
theorem level_adv {f : List Str → Nat → Option (T × Nat)} (ha : Adv f) : ∀ (ks : List Kd), Adv fun ws => levelM ws (f ws) ks
  | [] => fun ws i t j h => ha ws i t j h
  | k :: ks => fun ws i t j h => by
    have ih := level_adv ha ks ws
    dsimp only at h
    unfold levelM at h
    cases e : levelM ws (f ws) ks i with
    | none => rw [e] at h; cases h
    | some r =>
      obtain ⟨t1, j1⟩ := r
      rw [e] at h
      dsimp only at h
      have h1 := ih _ _ _ e
      cases e2 : chainM ws (levelM ws (f ws) ks) k.sg (ws.length + 1) [t1] j1 with
      | none => rw [e2] at h; cases h
      | some r2 =>
        obtain ⟨ts, j2⟩ := r2
        rw [e2] at h
        dsimp only at h
        have h2 := chain_adv (fun i t j q => ih i t j q) _ e2
        cases e3 : joinM k ts with
        | none => rw [e3] at h; cases h
        | some t3 =>
          rw [e3] at h
          cases h
          omega
theorem gate_adv {f : List Str → Nat → Option (T × Nat)} (ha : Adv f) : Adv fun ws => gateM ws (f ws) := fun ws i t j h => by
  dsimp only at h
  unfold gateM at h
  split at h
  · split at h
    · cases h
    · split at h
      · cases e : f ws (i + 3) with
        | none => rw [e] at h; cases h
        | some r =>
          rw [e] at h
          cases h
          have := ha ws (i + 3) r.1 r.2 e
          omega
      · cases h
  · cases h
theorem piece_adv : ∀ d : Nat, Adv fun ws => pieceM ws d
  | 0 => fun ws i t j h => by simp [pieceM] at h
  | d + 1 => fun ws i t j h => by
    have ih := piece_adv d
    dsimp only at h
    unfold pieceM at h
    split at h
    · split at h
      · cases h
      · rename_i t1 j1 e
        have h1 := level_adv ih kinds ws _ _ _ e
        split at h
        · cases h; omega
        · cases h
    · split at h
      · have := gate_adv ih ws _ _ _ h
        omega
      · split at h
        · cases h; omega
        · cases e : numM 0 (wd ws i) with
          | none => rw [e] at h; cases h
          | some n => rw [e] at h; cases h; omega
section
variable {P : Program} {w : World} {K : PySem.W.Frag} {mg : Str → Option Value} {base : Heap} {C N : Addr} {f : Addr} {fd : FuncData}
theorem ok_numP (F : Fun K "number_piece" "number_piece" s_number_piece f fd) : FnOk P w K mg base CX0 1 f fd ["number"] spNumP := by
  refine F.ok sc_number_piece (fun vs H Q E h => ?_) (fun cdv A outer s H vs Q E hr h => ?_)
  · obtain ⟨n, rfl, _⟩ := h
    rfl
  obtain ⟨n, rfl, k⟩ := h
  refine ⟨_, pss_one (ps_ret (pe_tup (pa_cons pe_str (pa_cons (pv 0) pa_nil)))), ?_⟩
  exact ⟨_, rfl, (by show 2 ≤ sizeLine; decide), fun p hp => k _ _ (same_new hp _) (.num upd_same)⟩
theorem ok_nameP (F : Fun K "name_piece" "name_piece" s_name_piece f fd) : FnOk P w K mg base CX0 1 f fd ["name"] spNameP := by
  refine F.ok sc_name_piece (fun vs H Q E h => ?_) (fun cdv A outer s H vs Q E hr h => ?_)
  · obtain ⟨n, rfl, _⟩ := h
    rfl
  obtain ⟨n, rfl, k⟩ := h
  refine ⟨_, pss_one (ps_ret (pe_tup (pa_cons pe_str (pa_cons (pv 0) pa_nil)))), ?_⟩
  exact ⟨_, rfl, (by show 2 ≤ sizeLine; decide), fun p hp => k _ _ (same_new hp _) (.name upd_same)⟩
theorem ok_gateP (F : Fun K "gate_piece" "gate_piece" s_gate_piece f fd) : FnOk P w K mg base CX0 1 f fd ["name", "bound", "piece"] spGateP := by
  refine F.ok sc_gate_piece (fun vs H Q E h => ?_) (fun cdv A outer s H vs Q E hr h => ?_)
  · obtain ⟨s, b, v, t, rfl, _⟩ := h
    rfl
  obtain ⟨s, b, v, t, rfl, ht, k⟩ := h
  refine ⟨_, pss_one (ps_ret (pe_tup (pa_cons pe_str (pa_cons (pv 0) (pa_cons (pv 1) (pa_cons (pv 2) pa_nil)))))), ?_⟩
  exact ⟨_, rfl, _, rfl, _, rfl, (by show 4 ≤ sizeLine; decide), fun p hp => k _ _ (same_new hp _) (.gate upd_same (ht.mono (.of_same (same_new hp _))))⟩
theorem ok_joinP (F : Fun K "joined_piece" "joined_piece" s_joined_piece f fd) (tup : mg "tuple" = none) : FnOk P w K mg base CX0 1 f fd ["kind", "pieces"] spJoinP := by
  refine F.ok sc_joined_piece (fun vs H Q E h => ?_) (fun cdv A outer s H vs Q E hr h => ?_)
  · obtain ⟨kd, l, xs, ts, rfl, _⟩ := h
    rfl
  obtain ⟨kd, l, xs, ts, rfl, hl, ht, k⟩ := h
  refine ⟨_, pss_one (ps_ret (pe_tup (pa_cons (pv 0) (pa_cons (pe_callTy call_tuple_of (by rfl) tup (by decide +kernel) (pa_cons (pv 1) pa_nil)) pa_nil)))), ?_⟩
  refine ⟨_, rfl, _, rfl, l, xs, rfl, .inl ⟨SqL.of hl, fun q hq => ?_⟩⟩
  refine ⟨(by show 2 ≤ sizeLine; decide), fun p hp => ?_⟩
  have s1 := same_new hq (.tup xs)
  have s2 := same_new hp (.tup [.str kd.nm, .ref q])
  exact k _ _ (s1.trans s2) (.join upd_same (s2 _ _ upd_same) (ht.mono (.of_same (s1.trans s2))))
theorem RdOut.mono {C N p l : Addr} {ws : List Str} {H H1 : Hp} {Q : VK} {E : XK} {o : Option (T × Nat)} (b : But p H H1) (h : RdOut C N p l ws H Q E o) : RdOut C N p l ws H1 Q E o := by
  cases o with
  | none => exact fun H' b' => h H' (b.trans b')
  | some r => exact fun v H' b' => h v H' (b.trans b')
/-- every call of a method that raises nothing -/
theorem RdAt.dx {C p l : Addr} {ws : List Str} {i : Nat} {H : Hp} (h : RdAt C p l ws i H) : ∃ dx, H p = some (.ins C dx (rflds l i)) := h.ob
theorem str_dec (a b : Str) : decide (V.str a = V.str b) = decide (a = b) := by
  by_cases h : a = b
  · rw [decide_eq_true h, decide_eq_true (by rw [h])]
  · rw [decide_eq_false h, decide_eq_false (by intro q; exact h (V.str.inj q))]
theorem ok_piece0 (F : Fun K "read_piece" "read_piece" s_read_piece f fd) (T : Txt K mg C N) {k : Nat} : FnOk P w K mg base (L2.CX P w) (k + 1) f fd ["reader", "deep"] (spPiece C N (fun ws => pieceM ws 0) 3) := by
  refine F.okX sc_read_piece (fun vs H Q E h => ?_) (fun cdv A outer s H vs Q E hr h => ?_)
  · obtain ⟨p, l, ws, i, rfl, _⟩ := h
    rfl
  obtain ⟨p, l, ws, i, rfl, R, W, q⟩ := h
  refine ⟨_, pss_cons (ps_if (pt_cmpR op_gt (pv 1) (pe_gI T.gDe) (nomark _)) (pss_one (ps_raise (W := fun cls d _ H => E cls d H) rfl (takes_of rfl rfl rfl rfl) (pmk_own PySem.F.excBase_ValueError T.xN T.gN T.kN (raises_own T.bN T.tN) rfl))) pss_nil)
    (pss_cons ps_never (pss_cons ps_never (pss_cons ps_never (pss_cons ps_never (pss_one ps_never))))), ?_⟩
  refine ⟨_, rfl, _, _, rfl, rfl, _, rfl, iteT ?_⟩
  exact q H (But.refl p H)
structure Mths (K : PySem.W.Frag) (C fA fT fX : Addr) : Prop where
  mA : Meth K C "ahead" fA
  mT : Meth K C "taken" fT
  mX : Meth K C "expect" fX
/-- the smaller defs as they are called by the reading -/
structure Low (P : Program) (w : World) (K : PySem.W.Frag) (mg : Str → Option Value) (base : Heap) (C N : Addr) : Prop where
  A : ∃ f fd, FnOk P w K mg base CX0 1 f fd ["self"] (spAhead C) ∧ Binds K fd ["self"] [] ∧ Meth K C "ahead" f
  T : ∃ f fd, FnOk P w K mg base CX0 2 f fd ["self"] (spTaken C) ∧ Binds K fd ["self"] [] ∧ Meth K C "taken" f
  X : ∃ f fd, FnOk P w K mg base (L2.CX P w) 3 f fd ["self", "word"] (spExpect C N) ∧ Binds K fd ["self", "word"] [] ∧ Meth K C "expect" f
  nm : ∃ f fd, FnOk P w K mg base CX0 1 f fd ["text"] spName ∧ Binds K fd ["text"] [] ∧ PySem.W.keepIn K (.ref f) = true ∧ mg "is_name" = some (.ref f)
  nu : ∃ f fd, FnOk P w K mg base (L2.CX P w) 1 f fd ["word", "lowest"] (spNum N) ∧ Binds K fd ["word", "lowest"] [] ∧ PySem.W.keepIn K (.ref f) = true ∧ mg "number_of" = some (.ref f)
  pN : ∃ f fd, FnOk P w K mg base CX0 1 f fd ["number"] spNumP ∧ Binds K fd ["number"] [] ∧ PySem.W.keepIn K (.ref f) = true ∧ mg "number_piece" = some (.ref f)
  pS : ∃ f fd, FnOk P w K mg base CX0 1 f fd ["name"] spNameP ∧ Binds K fd ["name"] [] ∧ PySem.W.keepIn K (.ref f) = true ∧ mg "name_piece" = some (.ref f)
  pG : ∃ f fd, FnOk P w K mg base CX0 1 f fd ["name", "bound", "piece"] spGateP ∧ Binds K fd ["name", "bound", "piece"] [] ∧ PySem.W.keepIn K (.ref f) = true ∧ mg "gate_piece" = some (.ref f)
  pJ : ∃ f fd, FnOk P w K mg base CX0 1 f fd ["kind", "pieces"] spJoinP ∧ Binds K fd ["kind", "pieces"] [] ∧ PySem.W.keepIn K (.ref f) = true ∧ mg "joined_piece" = some (.ref f)
theorem len_lit {n : Nat} {z : Str} (h : z.length = n) (hn : n ≤ 1000) : z.length ≤ 1000 := h ▸ hn
theorem ok_gate {fs : List Str → Nat → Option (Aw.T × Nat)} {dp : Int} {g : Addr} {gd : FuncData} {k : Nat} (hk : 3 ≤ k) (F : Fun K "read_gate" "read_gate" s_read_gate f fd) (T : Txt K mg C N) (L : Low P w K mg base C N)
    (GP : FnOk P w K mg base (L2.CX P w) k g gd ["reader", "deep"] (spPiece C N fs (dp + 1))) (bP : Binds K gd ["reader", "deep"] []) (kP : PySem.W.keepIn K (.ref g) = true) (mP : mg "read_piece" = some (.ref g)) :
    FnOk P w K mg base (L2.CX P w) (k + 1) f fd ["reader", "deep"] (spGate C N fs dp) := by
  obtain ⟨fT, dT, GT, bT, mT⟩ := L.T
  obtain ⟨fX, dX, GX, bX, mX⟩ := L.X
  obtain ⟨fn, dn, Gn, bn, kn, mn⟩ := L.nm
  obtain ⟨fu, du, Gu, bu, ku, mu⟩ := L.nu
  obtain ⟨fg, dg, Gg, bg, kg, mg'⟩ := L.pG
  refine F.okX sc_read_gate (fun vs H Q E h => ?_) (fun cdv A outer s H vs Q E hr h => ?_)
  · obtain ⟨p, l, ws, i, rfl, _⟩ := h
    rfl
  obtain ⟨p, l, ws, i, rfl, R, W, q⟩ := h
  have nd := sc_read_gate.nd
  have hr1 : Room 1 _ := hr.mono (by omega)
  have hr2 : Room 2 _ := hr.mono (by omega)
  have hr3 : Room 3 _ := hr.mono (by omega)
  refine ⟨_, pss_cons (ps_set (i := 2) nd rfl (.inl rfl) (pe_meth0 (pv 0) T.cl mT GT hr2 bT .nil pass0))
    (pss_cons (ps_if (pt_not (pt_val (pe_call Gn hr1 rfl mn kn bn .nil pass0 (pa_cons (pv 2) pa_nil))))
      (pss_one (ps_raise (W := fun cls d _ H => E cls d H) rfl (takes_of rfl rfl rfl rfl) (pmk_own PySem.F.excBase_ValueError T.xN T.gN T.kN (raises_own T.bN T.tN) rfl))) pss_nil)
    (pss_cons (ps_set (i := 3) nd rfl (.inl rfl) (pe_call (E := E) Gu hr1 rfl mu ku bu .nil (passes_call (W := fun cls d _ H => E cls d H) (takes_of rfl rfl rfl rfl) (fun _ _ _ _ h => h)) (pa_cons (pe_meth0 (pv 0) T.cl mT GT hr2 bT .nil pass0) (pa_cons pe_int pa_nil))))
    (pss_cons (ps_expr (pe_meth (E := E) (pv 0) T.cl mX GX hr3 bX .nil (passes_call (W := fun cls d _ H => E cls d H) (takes_of rfl rfl rfl rfl) (fun _ _ _ _ h => h)) (pa_cons pe_str pa_nil)))
    (pss_one (ps_ret (pe_call Gg hr1 rfl mg' kg bg .nil pass0 (pa_cons (pv 2) (pa_cons (pv 3) (pa_cons
      (pe_call (E := E) GP hr rfl mP kP bP .nil (passes_call (W := fun cls d _ H => E cls d H) (takes_of rfl rfl rfl rfl) (fun _ _ _ _ h => h)) (pa_cons (pv 0) (pa_cons (pe_op op_add (pv 1) pe_int) pa_nil))) pa_nil))))))))), ?_⟩
  have an : ∀ i, (rflds l i).lookup ("taken" : Str) = none := fun i => rflds_no _ _ (by decide +kernel) (by decide +kernel)
  have ax : ∀ i, (rflds l i).lookup ("expect" : Str) = none := fun i => rflds_no _ _ (by decide +kernel) (by decide +kernel)
  obtain ⟨dx, hp⟩ := R.ob
  refine ⟨_, rfl, p, dx, _, rfl, hp, an _, p, l, ws, i, rfl, R, fun H1 b1 R1 => ?_⟩
  refine ⟨_, rfl, wd ws i, rfl, W.wd i, fun H2 s2 => ?_⟩
  have R2 := R1.mono s2
  have b2 : But p H H2 := b1.trans (.of_same s2)
  refine ⟨_, rfl, ?_⟩
  unfold gateM at q
  cases e : nameM (wd ws i) with
  | false =>
    rw [e, if_neg Bool.false_ne_true] at q
    exact iteT (q H2 b2)
  | true =>
    rw [e, if_pos rfl] at q
    refine iteF ?_
    obtain ⟨dx2, hp2⟩ := R2.ob
    refine ⟨_, rfl, p, dx2, _, rfl, hp2, an _, p, l, ws, i + 1, rfl, R2, fun H3 b3 R3 => ?_⟩
    have b3' := b2.trans b3
    refine ⟨wd ws (i + 1), 1, rfl, by decide, by decide, fun n hn => ?_, fun hn => ?_⟩
    · rw [hn] at q
      dsimp only at q
      obtain ⟨dx3, hp3⟩ := R3.ob
      refine ⟨_, rfl, p, dx3, _, rfl, hp3, ax _, p, l, ws, i + 1 + 1, "]", rfl, R3, (by decide +kernel), W.ws, fun e2 H4 b4 R4 => ?_, fun e2 H4 b4 => ?_⟩
      · rw [show wd ws (i + 2) = "]" from e2, if_pos rfl] at q
        have b4' := b3'.trans b4
        refine ⟨_, rfl, _, rfl, _, rfl, _, rfl, _, _, rfl, rfl, p, l, ws, i + 3, rfl, R4, W, ?_⟩
        cases e3 : fs ws (i + 3) with
        | none =>
          rw [e3] at q
          exact fun H5 b5 => q H5 (b4'.trans b5)
        | some r =>
          obtain ⟨t, j⟩ := r
          rw [e3] at q
          intro v H5 b5 R5 tv
          refine ⟨wd ws i, n, v, t, rfl, tv, fun v' H6 s6 tv' => ?_⟩
          exact q v' H6 ((b4'.trans b5).trans (.of_same s6)) (R5.mono s6) tv'
      · rw [if_neg (show ¬ wd ws (i + 2) = "]" from e2)] at q
        exact q H4 (b3'.trans b4)
    · rw [hn] at q
      exact q H3 b3'
end
end Aw

namespace Aw
open PySem L2
section
variable {P : Program} {w : World} {K : PySem.W.Frag} {mg : Str → Option Value} {base : Heap} {C N : Addr} {f : Addr} {fd : FuncData}
theorem ok_pieceS {d : Nat} {dp : Int} (hdp : dp ≤ 2) {gl gg : Addr} {ld gd : FuncData} {k : Nat} (hk : 3 ≤ k) (F : Fun K "read_piece" "read_piece" s_read_piece f fd) (T : Txt K mg C N) (L : Low P w K mg base C N)
    (GL : FnOk P w K mg base (L2.CX P w) k gl ld ["reader", "level", "deep"] (spLevel C N kinds (fun ws => pieceM ws d) 0 (dp + 1))) (bL : Binds K ld ["reader", "level", "deep"] []) (kL : PySem.W.keepIn K (.ref gl) = true) (mL : mg "read_level" = some (.ref gl))
    (GG : FnOk P w K mg base (L2.CX P w) k gg gd ["reader", "deep"] (spGate C N (fun ws => pieceM ws d) dp)) (bG : Binds K gd ["reader", "deep"] []) (kG : PySem.W.keepIn K (.ref gg) = true) (mG : mg "read_gate" = some (.ref gg)) :
    FnOk P w K mg base (L2.CX P w) (k + 1) f fd ["reader", "deep"] (spPiece C N (fun ws => pieceM ws (d + 1)) dp) := by
  obtain ⟨fT, dT, GT, bT, mT⟩ := L.T
  obtain ⟨fX, dX, GX, bX, mX⟩ := L.X
  obtain ⟨fn, dn, Gn, bn, kn, mn⟩ := L.nm
  obtain ⟨fu, du, Gu, bu, ku, mu⟩ := L.nu
  obtain ⟨fs, ds, Gs, bs, ks, ms⟩ := L.pS
  obtain ⟨fN, dN, GN, bN, kN, mN⟩ := L.pN
  refine F.okX sc_read_piece (fun vs H Q E h => ?_) (fun cdv A outer s H vs Q E hr h => ?_)
  · obtain ⟨p, l, ws, i, rfl, _⟩ := h
    rfl
  obtain ⟨p, l, ws, i, rfl, R, W, q⟩ := h
  have nd := sc_read_piece.nd
  have hr1 : Room 1 _ := hr.mono (by omega)
  have hr2 : Room 2 _ := hr.mono (by omega)
  have hr3 : Room 3 _ := hr.mono (by omega)
  refine ⟨_, pss_cons (ps_if (pt_cmpR op_gt (pv 1) (pe_gI T.gDe) (nomark _)) (pss_one (ps_raise (W := fun cls d _ H => E cls d H) rfl (takes_of rfl rfl rfl rfl) (pmk_own PySem.F.excBase_ValueError T.xN T.gN T.kN (raises_own T.bN T.tN) rfl))) pss_nil)
    (pss_cons (ps_set (i := 2) nd rfl (.inl rfl) (pe_meth0 (pv 0) T.cl mT GT hr2 bT .nil pass0))
    (pss_cons (ps_if (pt_cmpR op_eq (pv 2) pe_str (nomark _))
      (pss_cons (ps_set (i := 3) nd rfl (.inl rfl) (pe_call (E := E) GL hr rfl mL kL bL .nil (passes_call (W := fun cls d _ H => E cls d H) (takes_of rfl rfl rfl rfl) (fun _ _ _ _ h => h)) (pa_cons (pv 0) (pa_cons pe_int (pa_cons (pe_op op_add (pv 1) pe_int) pa_nil)))))
      (pss_cons (ps_expr (pe_meth (E := E) (pv 0) T.cl mX GX hr3 bX .nil (passes_call (W := fun cls d _ H => E cls d H) (takes_of rfl rfl rfl rfl) (fun _ _ _ _ h => h)) (pa_cons pe_str pa_nil)))
      (pss_one (ps_ret (pv 3))))) pss_nil)
    (pss_cons (ps_if (pt_cmpR op_eq (pv 2) pe_str (nomark _))
      (pss_one (ps_ret (pe_call (E := E) GG hr rfl mG kG bG .nil (passes_call (W := fun cls d _ H => E cls d H) (takes_of rfl rfl rfl rfl) (fun _ _ _ _ h => h)) (pa_cons (pv 0) (pa_cons (pv 1) pa_nil))))) pss_nil)
    (pss_cons (ps_if (pt_val (pe_call Gn hr1 rfl mn kn bn .nil pass0 (pa_cons (pv 2) pa_nil)))
      (pss_one (ps_ret (pe_call Gs hr1 rfl ms ks bs .nil pass0 (pa_cons (pv 2) pa_nil)))) pss_nil)
    (pss_one (ps_ret (pe_call GN hr1 rfl mN kN bN .nil pass0 (pa_cons (pe_call (E := E) Gu hr1 rfl mu ku bu .nil (passes_call (W := fun cls d _ H => E cls d H) (takes_of rfl rfl rfl rfl) (fun _ _ _ _ h => h)) (pa_cons (pv 2) (pa_cons pe_int pa_nil))) pa_nil)))))))), ?_⟩
  have an : ∀ i, (rflds l i).lookup ("taken" : Str) = none := fun i => rflds_no _ _ (by decide +kernel) (by decide +kernel)
  have ax : ∀ i, (rflds l i).lookup ("expect" : Str) = none := fun i => rflds_no _ _ (by decide +kernel) (by decide +kernel)
  obtain ⟨dx, hp⟩ := R.ob
  refine ⟨_, rfl, _, _, rfl, rfl, _, rfl, ?_⟩
  rw [show decide ((2 : Int) < dp) = false from decide_eq_false (by omega)]
  refine iteF ⟨_, rfl, p, dx, _, rfl, hp, an _, p, l, ws, i, rfl, R, fun H1 b1 R1 => ?_⟩
  refine ⟨_, rfl, rfl, _, rfl, ?_⟩
  rw [str_dec]
  have q : RdOut C N p l ws H Q E (pieceM ws (d + 1) i) := q
  unfold pieceM at q
  by_cases c1 : wd ws i = "("
  · rw [decide_eq_true c1]
    rw [if_pos c1] at q
    refine iteT ⟨_, rfl, _, rfl, _, _, rfl, rfl, p, l, ws, i + 1, rfl, R1, W, ?_⟩
    cases e : levelM ws (pieceM ws d) kinds (i + 1) with
    | none =>
      rw [e] at q
      exact fun H2 b2 => q H2 (b1.trans b2)
    | some r =>
      obtain ⟨t, j⟩ := r
      rw [e] at q
      dsimp only at q
      intro v H2 b2 R2 tv
      obtain ⟨dx2, hp2⟩ := R2.ob
      refine ⟨_, rfl, p, dx2, _, rfl, hp2, ax _, p, l, ws, j, ")", rfl, R2, (by decide +kernel), W.ws, fun e2 H3 b3 R3 => ?_, fun e2 H3 b3 => ?_⟩
      · rw [if_pos e2] at q
        exact ⟨_, rfl, q v H3 ((b1.trans b2).trans b3) R3 (tv.mono (R2.tups b3))⟩
      · rw [if_neg e2] at q
        exact q H3 ((b1.trans b2).trans b3)
  · rw [decide_eq_false c1]
    rw [if_neg c1] at q
    refine iteF ⟨_, rfl, rfl, _, rfl, ?_⟩
    rw [str_dec]
    by_cases c2 : wd ws i = "["
    · rw [decide_eq_true c2]
      rw [if_pos c2] at q
      exact iteT ⟨_, rfl, _, rfl, p, l, ws, i + 1, rfl, R1, W, q.mono b1⟩
    · rw [decide_eq_false c2]
      rw [if_neg c2] at q
      refine iteF ⟨_, rfl, wd ws i, rfl, W.wd i, fun H2 s2 => ?_⟩
      have R2 := R1.mono s2
      have b2 : But p H H2 := b1.trans (.of_same s2)
      refine ⟨_, rfl, ?_⟩
      cases e : nameM (wd ws i) with
      | true =>
        rw [e, if_pos rfl] at q
        exact iteT ⟨_, rfl, wd ws i, rfl, fun v H3 s3 tv => q v H3 (b2.trans (.of_same s3)) (R2.mono s3) tv⟩
      | false =>
        rw [e, if_neg Bool.false_ne_true] at q
        refine iteF ⟨_, rfl, wd ws i, 0, rfl, by decide, by decide, fun n hn => ?_, fun hn => ?_⟩
        · rw [hn] at q
          exact ⟨n, rfl, fun v H3 s3 tv => q v H3 (b2.trans (.of_same s3)) (R2.mono s3) tv⟩
        · rw [hn] at q
          exact q H2 b2
theorem ok_level_end {fs : List Str → Nat → Option (Aw.T × Nat)} {dp : Int} {g : Addr} {gd : FuncData} {k : Nat} (F : Fun K "read_level" "read_level" s_read_level f fd) (T : Txt K mg C N) (TC : TxtC K mg w)
    (GP : FnOk P w K mg base (L2.CX P w) k g gd ["reader", "deep"] (spPiece C N fs dp)) (bP : Binds K gd ["reader", "deep"] []) (kP : PySem.W.keepIn K (.ref g) = true) (mP : mg "read_piece" = some (.ref g)) :
    FnOk P w K mg base (L2.CX P w) (k + 1) f fd ["reader", "level", "deep"] (spLevel C N [] fs 3 dp) := by
  obtain ⟨aL, gL, tL⟩ := TC.gLv
  refine F.okX sc_read_level (fun vs H Q E h => ?_) (fun cdv A outer s H vs Q E hr h => ?_)
  · obtain ⟨p, l, ws, i, rfl, _⟩ := h
    rfl
  obtain ⟨p, l, ws, i, rfl, R, W, q⟩ := h
  refine ⟨_, pss_cons (ps_if (pt_cmpR op_eq (pv 1) (pe_callB call_len_seq (by rfl) T.len PySem.boot_len (pa_cons (pe_glob (v := .ref aL) rfl gL rfl) pa_nil)) (nomark _))
      (pss_one (ps_ret (pe_call (E := E) GP hr rfl mP kP bP .nil (passes_call (W := fun cls d _ H => E cls d H) (takes_of rfl rfl rfl rfl) (fun _ _ _ _ h => h)) (pa_cons (pv 0) (pa_cons (pv 2) pa_nil))))) pss_nil)
    (pss_cons ps_never (pss_cons ps_never (pss_cons ps_never (pss_cons ps_never (pss_cons ps_never (pss_one ps_never)))))), ?_⟩
  refine ⟨_, rfl, aL, _, rfl, .inr (tL H), rfl, _, rfl, iteT ?_⟩
  exact ⟨_, rfl, _, rfl, p, l, ws, i, rfl, R, W, q⟩
def lvOf : Kd → Int
  | .most => 0
  | .least => 1
  | .sum => 2
theorem ok_level_step {fs : List Str → Nat → Option (Aw.T × Nat)} (ha : Adv fs) {kd : Kd} {ks : List Kd} {dp : Int} {k : Nat} (hk : 3 ≤ k) (F : Fun K "read_level" "read_level" s_read_level f fd) (T : Txt K mg C N) (TC : TxtC K mg w) (L : Low P w K mg base C N)
    (GL : FnOk P w K mg base (L2.CX P w) k f fd ["reader", "level", "deep"] (spLevel C N ks fs (lvOf kd + 1) dp)) (bL : Binds K fd ["reader", "level", "deep"] []) (kL : PySem.W.keepIn K (.ref f) = true) (mL : mg "read_level" = some (.ref f)) :
    FnOk P w K mg base (L2.CX P w) (k + 1) f fd ["reader", "level", "deep"] (spLevel C N (kd :: ks) fs (lvOf kd) dp) := by
  obtain ⟨aL, gL, tL⟩ := TC.gLv
  obtain ⟨aS, gS, tS⟩ := TC.gSg
  obtain ⟨fA, dA, GA, bA, mA⟩ := L.A
  obtain ⟨fT, dT, GT, bT, mT⟩ := L.T
  obtain ⟨fJ, dJ, GJ, bJ, kJ, mJ⟩ := L.pJ
  refine F.okX sc_read_level (fun vs H Q E h => ?_) (fun cdv A outer s H vs Q E hr h => ?_)
  · obtain ⟨p, l, ws, i, rfl, _⟩ := h
    rfl
  obtain ⟨p, l, ws, i, rfl, R, W, q⟩ := h
  have nd := sc_read_level.nd
  have hr1 : Room 1 _ := hr.mono (by omega)
  have hr2 : Room 2 _ := hr.mono (by omega)
  refine ⟨_, pss_cons (ps_if (pt_cmpR op_eq (pv 1) (pe_callB call_len_seq (by rfl) T.len PySem.boot_len (pa_cons (pe_glob (v := .ref aL) rfl gL rfl) pa_nil)) (nomark _)) (pss_one ps_never) pss_nil)
    (pss_cons (ps_set (i := 3) nd rfl (.inl rfl) (pe_ix ix_tup (pe_glob (v := .ref aL) rfl gL rfl) (pv 1) (fun _ _ => rfl)))
    (pss_cons (ps_set (i := 4) nd rfl (.inl rfl) (pe_lst (pa_cons (pe_call (E := E) GL hr rfl mL kL bL .nil (passes_call (W := fun cls d _ H => E cls d H) (takes_of rfl rfl rfl rfl) (fun _ _ _ _ h => h)) (pa_cons (pv 0) (pa_cons (pe_op op_add (pv 1) pe_int) (pa_cons (pv 2) pa_nil)))) pa_nil)))
    (pss_cons (ps_while (passes_of rfl) (pt_cmpR op_eq (pe_meth0 (pv 0) T.cl mA GA hr1 bA .nil pass0) (pe_ix ix_kdict (pe_glob (v := .ref aS) rfl gS rfl) (pv 3) (fun _ _ => rfl)) (nomark _))
      (pss_cons (ps_expr (pe_meth0 (pv 0) T.cl mT GT hr2 bT .nil pass0))
      (pss_one (ps_expr (pe_bm PySem.F.plainAttrs_list PySem.F.slot_list_append PySem.F.type_list_append mt_append (pv 4) (pa_cons (pe_call (E := E) GL hr rfl mL kL bL .nil (passes_call (W := fun cls d _ H => E cls d H) (takes_of rfl rfl rfl rfl) (fun _ _ _ _ h => h)) (pa_cons (pv 0) (pa_cons (pe_op op_add (pv 1) pe_int) (pa_cons (pv 2) pa_nil)))) pa_nil))))))
    (pss_cons (ps_if (pt_cmpR op_gt (pe_callB call_len_seq (by rfl) T.len PySem.boot_len (pa_cons (pv 4) pa_nil)) (pe_gI T.gMP) (nomark _))
      (pss_one (ps_raise (W := fun cls d _ H => E cls d H) rfl (takes_of rfl rfl rfl rfl) (pmk_own PySem.F.excBase_ValueError T.xN T.gN T.kN (raises_own T.bN T.tN) rfl))) pss_nil)
    (pss_cons (ps_if (pt_cmpR op_eq (pe_callB call_len_seq (by rfl) T.len PySem.boot_len (pa_cons (pv 4) pa_nil)) pe_int (nomark _)) (pss_one (ps_ret (pe_ix ix_list (pv 4) pe_int (fun _ _ => rfl)))) pss_nil)
    (pss_one (ps_ret (pe_call GJ hr1 rfl mJ kJ bJ .nil pass0 (pa_cons (pv 3) (pa_cons (pv 4) pa_nil)))))))))), ?_⟩
  have al : ∀ i, (rflds l i).lookup ("ahead" : Str) = none := fun i => rflds_no _ _ (by decide +kernel) (by decide +kernel)
  have an : ∀ i, (rflds l i).lookup ("taken" : Str) = none := fun i => rflds_no _ _ (by decide +kernel) (by decide +kernel)
  have adv := level_adv ha ks ws
  refine ⟨_, rfl, aL, _, rfl, .inr (tL H), rfl, _, rfl, ?_⟩
  rw [show decide (V.int (lvOf kd) = V.int ((([.str "most", .str "least", .str "sum"] : List V).length : Nat) : Int)) = false from by cases kd <;> decide]
  refine iteF ⟨_, rfl, aL, _, _, .str kd.nm, rfl, rfl, tL H, (by cases kd <;> rfl), ?_⟩
  refine ⟨_, rfl, _, rfl, _, _, rfl, rfl, _, rfl, p, l, ws, i, rfl, R, W, ?_⟩
  unfold levelM at q
  cases e : levelM ws (fs ws) ks i with
  | none =>
    rw [e] at q
    exact q
  | some r =>
    obtain ⟨t, j⟩ := r
    rw [e] at q
    dsimp only at q
    intro v H1 b1 R1 tv
    refine ⟨(by show 1 ≤ sizeLine; decide), fun a hna => ?_⟩
    have hpa : p ≠ a := R1.ne_new hna
    have hna0 : H a = none := by
      cases e0 : H a with
      | none => rfl
      | some o =>
        have := b1 a o e0 hpa.symm
        rw [hna] at this
        cases this
    have bu : ∀ {H2 : Hp} (o : HO), But p H H2 → But p H (upd H2 a o) := fun o b c u hc hcp => by
      rw [upd_ne (ne_of_none hc hna0)]
      exact b c u hc hcp
    have hlen : ws.length ≤ 1000 := R.ln
    generalize eR : chainM ws (levelM ws (fs ws) ks) kd.sg (ws.length + 1) [t] j = RES at q
    refine ⟨fun n σ H' => ∃ ts vs j', σ = [some (.ref p), some (.int (lvOf kd)), some (.int dp), some (.str kd.nm), some (.ref a)] ∧ But p H H' ∧ RdAt C p l ws j' H' ∧ H' a = some (.lst vs) ∧ TAs H' vs ts ∧ 0 < ts.length ∧ ts.length ≤ j' ∧
      (ts.length ≤ ws.length + 1) ∧ chainM ws (levelM ws (fs ws) ks) kd.sg n ts j' = RES ∧ 0 < n ∧ ws.length < n + j', ⟨ws.length + 1, [t], [v], j, rfl, bu _ b1, R1.mono (same_new hna _), upd_same, .cons (tv.mono (.of_same (same_new hna _))) .nil, Nat.zero_lt_one, ?_, ?_, eR, by omega, by omega⟩, ?_⟩
    · have := adv _ _ _ e
      show 1 ≤ j
      omega
    · show 1 ≤ _
      omega
    rintro n σ H2 ⟨ts, vs, j', rfl, b2, R2, e2, tvs, h0, hj, hw, ec, hn0, hf⟩
    obtain ⟨dx2, hp2⟩ := R2.ob
    refine ⟨_, rfl, p, dx2, _, rfl, hp2, al _, p, l, ws, j', rfl, R2, ?_⟩
    refine ⟨_, rfl, aS, kd.nm, _, rfl, rfl, tS kd, rfl, _, rfl, ?_⟩
    rw [str_dec]
    cases n with
    | zero => exact absurd hn0 (Nat.lt_irrefl 0)
    | succ n =>
      unfold chainM at ec
      by_cases c : wd ws j' = kd.sg
      · rw [if_pos c] at ec
        rw [decide_eq_true c]
        have hjl : j' < ws.length := wd_lt c (by cases kd <;> decide +kernel)
        refine iteT ⟨_, fun σ' H' h => ⟨n, Nat.lt_succ_self n, h⟩, ?_⟩
        refine ⟨_, rfl, p, dx2, _, rfl, hp2, an _, p, l, ws, j', rfl, R2, fun H3 b3 R3 => ?_⟩
        have e3 : H3 a = some (.lst vs) := b3 _ _ e2 hpa.symm
        refine ⟨_, rfl, .inl ⟨rfl, _, SqL.of e3⟩, _, rfl, _, rfl, _, _, rfl, rfl, _, rfl, p, l, ws, j' + 1, rfl, R3, W, ?_⟩
        have tvs3 := tvs.mono (R2.tups b3)
        cases e5 : levelM ws (fs ws) ks (j' + 1) with
        | none =>
          rw [e5] at ec
          subst ec
          exact fun H4 b4 => q H4 ((b2.trans b3).trans b4)
        | some r5 =>
          obtain ⟨t5, j5⟩ := r5
          rw [e5] at ec
          dsimp only at ec
          have h5 := adv _ _ _ e5
          intro v5 H4 b4 R4 tv5
          have e4 : H4 a = some (.lst vs) := b4 _ _ e3 hpa.symm
          have hvl := tvs.length
          have tvs4 := tvs3.mono (R3.tups b4)
          have tu : Tups H4 (upd H4 a (.lst (vs ++ [v5]))) := fun b xs hb => by
            rw [upd_ne (ne_of hb e4 (by intro z; cases z))]
            exact hb
          have hla : l ≠ a := by
            intro z
            subst z
            have z1 := R1.ls
            rw [hna] at z1
            cases z1
          refine ⟨a, _, _, rfl, rfl, e4, small1000 (by omega), ts ++ [t5], vs ++ [v5], j5, rfl, bu _ ((b2.trans b3).trans b4), ?_, upd_same, ((TAs.snoc tv5 tvs4).mono tu), ?_, ?_, ?_, ec, ?_, ?_⟩
          · obtain ⟨dx4, hp4⟩ := R4.ob
            exact ⟨⟨dx4, by rw [upd_ne hpa]; exact hp4⟩, by rw [upd_ne hla]; exact R4.ls, R4.ln⟩
          all_goals (try rw [List.length_append, List.length_singleton])
          all_goals omega
      · rw [if_neg c] at ec
        rw [decide_eq_false c]
        subst ec
        dsimp only at q
        refine iteF ⟨_, rfl, a, _, rfl, .inl (SqL.of e2), _, _, rfl, rfl, _, rfl, ?_⟩
        rw [tvs.length]
        unfold joinM at q
        by_cases c8 : 8 < ts.length
        · rw [if_pos c8] at q
          rw [show decide ((8 : Int) < ((ts.length : Nat) : Int)) = true from decide_eq_true (by omega)]
          exact iteT (q H2 b2)
        · rw [if_neg c8] at q
          rw [show decide ((8 : Int) < ((ts.length : Nat) : Int)) = false from decide_eq_false (by omega)]
          refine iteF ⟨_, rfl, a, _, rfl, .inl (SqL.of e2), rfl, _, rfl, ?_⟩
          rw [tvs.length]
          match ts, vs, tvs, h0, q with
          | [], _, _, h0, _ => exact absurd h0 (Nat.lt_irrefl 0)
          | [t1], [v1], .cons ta _, _, q =>
            refine iteT ⟨_, rfl, a, _, _, v1, rfl, rfl, SqL.of e2, rfl, ?_⟩
            exact q v1 H2 b2 R2 ta
          | t1 :: t2 :: r, _, tvs, _, q =>
            rw [show decide (V.int (((t1 :: t2 :: r).length : Nat) : Int) = V.int 1) = false from decide_eq_false (by intro z; have := V.int.inj z; simp only [List.length_cons] at this; omega)]
            refine iteF ⟨_, rfl, _, rfl, kd, a, _, _, rfl, e2, tvs, fun v' H3 s3 tv' => ?_⟩
            exact q v' H3 (b2.trans (.of_same s3)) (R2.mono s3) tv'
end
end Aw

namespace Aw
open PySem L2
theorem lexStep_wl {ws : List Str} {b k : Kn} {c i : Nat} (h : ∀ w ∈ ws, w.length ≤ i) : ∀ w ∈ lexStep (ws, b) c k, w.length ≤ i + 1 := by
  intro w hw
  unfold lexStep at hw
  dsimp only at hw
  split at hw
  · exact mem_addLast h hw
  · split at hw
    · rcases List.mem_append.mp hw with q | q
      · exact Nat.le_succ_of_le (h _ q)
      · rw [List.mem_singleton.mp q, len_sg1]; omega
    · exact Nat.le_succ_of_le (h _ hw)
theorem lexStep_len {ws : List Str} {b k : Kn} {c i : Nat} (h : ws.length ≤ i) : (lexStep (ws, b) c k).length ≤ i + 1 := by
  unfold lexStep
  dsimp only
  split
  · unfold addLast
    rw [List.length_set]; omega
  · split
    · rw [List.length_append, List.length_singleton]; omega
    · omega
theorem lexGo_bound : ∀ (cs : List Nat) (ws : List Str) (b : Kn) (i : Nat) {ws' : List Str}, (∀ w ∈ ws, w.length ≤ i) → ws.length ≤ i → lexGo cs ws b = some ws' → (∀ w ∈ ws', w.length ≤ i + cs.length) ∧ ws'.length ≤ i + cs.length
  | [], ws, b, i, ws', h1, h2, h => by
    unfold lexGo at h
    cases h
    exact ⟨h1, h2⟩
  | c :: r, ws, b, i, ws', h1, h2, h => by
    unfold lexGo at h
    cases e : kindM c with
    | none => rw [e] at h; cases h
    | some k =>
      rw [e] at h
      have q := lexGo_bound r _ _ (i + 1) (lexStep_wl h1) (lexStep_len h2) h
      have e1 : i + 1 + r.length = i + (c :: r).length := by rw [List.length_cons]; omega
      rw [e1] at q
      exact q
theorem lexM_ok {z : Str} {ws : List Str} (h : lexM z = some ws) : (∀ w ∈ ws, w.length ≤ z.length) ∧ ws.length ≤ z.length := by
  have q := lexGo_bound z.cps.toList [] .blank 0 (fun _ h => by cases h) (Nat.le_refl 0) h
  rw [Nat.zero_add, Array.length_toList] at q
  exact q
/-- the three of the reading that call one another, as they stand -/
structure Rec (K : PySem.W.Frag) (mg : Str → Option Value) (fl fp fg : Addr) (dl dp dg : FuncData) : Prop where
  FL : Fun K "read_level" "read_level" s_read_level fl dl
  FP : Fun K "read_piece" "read_piece" s_read_piece fp dp
  FG : Fun K "read_gate" "read_gate" s_read_gate fg dg
  bL : Binds K dl ["reader", "level", "deep"] []
  bP : Binds K dp ["reader", "deep"] []
  bG : Binds K dg ["reader", "deep"] []
  mL : mg "read_level" = some (.ref fl)
  mP : mg "read_piece" = some (.ref fp)
  mG : mg "read_gate" = some (.ref fg)
section
variable {P : Program} {w : World} {K : PySem.W.Frag} {mg : Str → Option Value} {base : Heap} {C N : Addr} {f : Addr} {fd : FuncData} {fl fp fg : Addr} {dl dp dg : FuncData}
theorem level_all {fs : List Str → Nat → Option (Aw.T × Nat)} (ha : Adv fs) {dq : Int} {k : Nat} (hk : 3 ≤ k) (T : Txt K mg C N) (TC : TxtC K mg w) (L : Low P w K mg base C N) (R : Rec K mg fl fp fg dl dp dg)
    (GP : FnOk P w K mg base (L2.CX P w) k fp dp ["reader", "deep"] (spPiece C N fs dq)) : FnOk P w K mg base (L2.CX P w) (k + 4) fl dl ["reader", "level", "deep"] (spLevel C N kinds fs 0 dq) := by
  have g3 := ok_level_end R.FL T TC GP R.bP R.FP.kp R.mP
  have g2 : FnOk P w K mg base (L2.CX P w) (k + 2) fl dl ["reader", "level", "deep"] (spLevel C N [.sum] fs (lvOf .sum) dq) := ok_level_step ha (by omega) R.FL T TC L g3 R.bL R.FL.kp R.mL
  have g1 : FnOk P w K mg base (L2.CX P w) (k + 3) fl dl ["reader", "level", "deep"] (spLevel C N [.least, .sum] fs (lvOf .least) dq) := ok_level_step ha (by omega) R.FL T TC L g2 R.bL R.FL.kp R.mL
  exact ok_level_step (kd := .most) ha (by omega) R.FL T TC L g1 R.bL R.FL.kp R.mL
theorem piece_all (T : Txt K mg C N) (TC : TxtC K mg w) (L : Low P w K mg base C N) (R : Rec K mg fl fp fg dl dp dg) : ∀ d : Nat, ∀ dq : Int, dq = 3 - (d : Nat) → FnOk P w K mg base (L2.CX P w) (4 + 6 * d) fp dp ["reader", "deep"] (spPiece C N (fun ws => pieceM ws d) dq)
  | 0, dq, h => by
    have e : dq = 3 := by omega
    subst e
    exact ok_piece0 (k := 3) R.FP T
  | d + 1, dq, h => by
    have G := piece_all T TC L R d (dq + 1) (by omega)
    have GL := level_all (piece_adv d) (by omega) T TC L R G
    have GG := ok_gate (dp := dq) (by omega) R.FG T L G R.bP R.FP.kp R.mP
    exact (ok_pieceS (k := 4 + 6 * d + 4) (by omega) (by omega) R.FP T L GL R.bL R.FL.kp R.mL (GG.mono (by omega)) R.bG R.FG.kp R.mG).mono (by omega)
theorem ok_read {fw fi : Addr} {dw di : FuncData} (F : Fun K "read" "read" s_read f fd) (T : Txt K mg C N) (TC : TxtC K mg w) (L : Low P w K mg base C N) (R : Rec K mg fl fp fg dl dp dg) (M : Mk K C fi) (GI : FnOk P w K mg base CX0 1 fi di ["self", "words"] (spInit C)) (bI : Binds K di ["self", "words"] [])
    (GW : FnOk P w K mg base (L2.CX P w) 2 fw dw ["text"] (spWords N)) (bW : Binds K dw ["text"] []) (kW : PySem.W.keepIn K (.ref fw) = true) (mW : mg "words_of" = some (.ref fw)) : FnOk P w K mg base (L2.CX P w) 27 f fd ["text"] (spRead N) := by
  obtain ⟨fA, dA, GA, bA, mA⟩ := L.A
  have GL : FnOk P w K mg base (L2.CX P w) 26 fl dl ["reader", "level", "deep"] (spLevel C N kinds (fun ws => pieceM ws 3) 0 0) := level_all (piece_adv 3) (by omega) T TC L R (piece_all T TC L R 3 0 (by decide))
  refine F.okX sc_read (fun vs H Q E h => ?_) (fun cdv A outer s H vs Q E hr h => ?_)
  · obtain ⟨z, rfl, _⟩ := h
    rfl
  obtain ⟨z, rfl, hz, k1, k2⟩ := h
  have nd := sc_read.nd
  have hr1 : Room 1 _ := hr.mono (by omega)
  have hr2 : Room 2 _ := hr.mono (by omega)
  refine ⟨_, pss_cons (ps_if (pt_cmpR op_gt (pe_callB call_len_str (by rfl) T.len PySem.boot_len (pa_cons (pv 0) pa_nil)) (pe_gI T.gMS) (nomark _))
      (pss_one (ps_raise (W := fun cls d _ H => E cls d H) rfl (takes_of rfl rfl rfl rfl) (pmk_own PySem.F.excBase_ValueError T.xN T.gN T.kN (raises_own T.bN T.tN) rfl))) pss_nil)
    (pss_cons (ps_set (i := 1) nd rfl (.inl rfl) (pe_call (E := E) GW hr2 rfl mW kW bW .nil (passes_call (W := fun cls d _ H => E cls d H) (takes_of rfl rfl rfl rfl) (fun _ _ _ _ h => h)) (pa_cons (pv 0) pa_nil)))
    (pss_cons (ps_if (pt_cmpR op_gt (pe_callB call_len_seq (by rfl) T.len PySem.boot_len (pa_cons (pv 1) pa_nil)) (pe_gI T.gMW) (nomark _))
      (pss_one (ps_raise (W := fun cls d _ H => E cls d H) rfl (takes_of rfl rfl rfl rfl) (pmk_own PySem.F.excBase_ValueError T.xN T.gN T.kN (raises_own T.bN T.tN) rfl))) pss_nil)
    (pss_cons (ps_set (i := 2) nd rfl (.inl rfl) (pe_make M GI hr2 rfl T.mgC bI .nil pass0 (pa_cons (pv 1) pa_nil)))
    (pss_cons (ps_set (i := 3) nd rfl (.inl rfl) (pe_call (E := E) GL hr rfl R.mL R.FL.kp R.bL .nil (passes_call (W := fun cls d _ H => E cls d H) (takes_of rfl rfl rfl rfl) (fun _ _ _ _ h => h)) (pa_cons (pv 2) (pa_cons pe_int (pa_cons pe_int pa_nil)))))
    (pss_cons (ps_if (pt_cmpR op_ne (pe_meth0 (pv 2) T.cl mA GA hr1 bA .nil pass0) pe_str (nomark _))
      (pss_one (ps_raise (W := fun cls d _ H => E cls d H) rfl (takes_of rfl rfl rfl rfl) (pmk_own PySem.F.excBase_ValueError T.xN T.gN T.kN (raises_own T.bN T.tN) rfl))) pss_nil)
    (pss_one (ps_ret (pv 3)))))))), ?_⟩
  refine ⟨_, rfl, z, rfl, hz, _, _, rfl, rfl, _, rfl, ?_⟩
  unfold readM at k1 k2
  by_cases c1 : 400 < z.length
  · rw [if_pos c1] at k2
    rw [show decide ((400 : Int) < ((z.length : Nat) : Int)) = true from decide_eq_true (by omega)]
    exact iteT (k2 rfl H (Same.refl H))
  rw [if_neg c1] at k1 k2
  rw [show decide ((400 : Int) < ((z.length : Nat) : Int)) = false from decide_eq_false (by omega)]
  refine iteF ⟨_, rfl, z, rfl, by omega, fun ws ew l H1 s1 hl e1 => ?_, fun ew H1 s1 => ?_⟩
  · rw [ew] at k1 k2
    dsimp only at k1 k2
    have B := lexM_ok ew
    refine ⟨_, rfl, l, _, rfl, .inl (SqL.of e1), _, _, rfl, rfl, _, rfl, ?_⟩
    rw [List.length_map]
    by_cases c2 : 40 < ws.length
    · rw [if_pos c2] at k2
      rw [show decide ((40 : Int) < ((ws.length : Nat) : Int)) = true from decide_eq_true (by omega)]
      exact iteT (k2 rfl H1 s1)
    rw [if_neg c2] at k1 k2
    rw [show decide ((40 : Int) < ((ws.length : Nat) : Int)) = false from decide_eq_false (by omega)]
    refine iteF ⟨_, rfl, fun p dx np ndx nex => ?_⟩
    refine ⟨p, dx, l, rfl, upd_same, fun H2 hp2 b2 => ⟨rfl, ?_⟩⟩
    have s2 : Same H1 H2 := fun b o e => b2 b o (by rw [upd_ne (ne_of_none e np), upd_ne (ne_of_none e ndx)]; exact e) (ne_of_none e np)
    have R2 : RdAt C p l ws 0 H2 := ⟨⟨dx, hp2⟩, s2 _ _ e1, by omega⟩
    have W : WsOk ws := ⟨fun w hw => by have := B.1 w hw; omega⟩
    have bs : ∀ {H3 : Hp}, But p H2 H3 → Same H H3 := fun b3 b o e => b3 b o (s2 b o (s1 b o e)) (ne_of_none (s1 b o e) np)
    refine ⟨_, rfl, p, l, ws, 0, rfl, R2, W, ?_⟩
    cases e3 : levelM ws (pieceM ws 3) kinds 0 with
    | none =>
      rw [e3] at k2
      exact fun H3 b3 => k2 rfl H3 (bs b3)
    | some r =>
      obtain ⟨t, j⟩ := r
      rw [e3] at k1 k2
      dsimp only at k1 k2
      intro v H3 b3 R3 tv
      obtain ⟨dx3, hp3⟩ := R3.ob
      refine ⟨_, rfl, p, dx3, _, rfl, hp3, rflds_no _ _ (by decide +kernel) (by decide +kernel), p, l, ws, j, rfl, R3, ?_⟩
      refine ⟨rfl, _, rfl, ?_⟩
      rw [str_dec]
      by_cases c3 : wd ws j = Str.empty
      · rw [if_pos c3] at k1
        rw [show decide (wd ws j = ("" : Str)) = true from decide_eq_true c3]
        exact iteF ⟨_, rfl, k1 t rfl v H3 (bs b3) tv⟩
      · rw [if_neg c3] at k2
        rw [show decide (wd ws j = ("" : Str)) = false from decide_eq_false c3]
        exact iteT (k2 rfl H3 (bs b3))
  · rw [ew] at k2
    exact k2 rfl H1 s1
end
end Aw

namespace Aw
open PySem L2
/-! ### the law's own helpers -/
def spCell (K : PySem.W.Frag) : Sp := fun vs H Q _ => ∃ (a : Addr) (ns : List Int) (k : Nat), vs = [.ref a, .int k] ∧ SqL K H a (ns.map V.int) ∧ ns.length ≤ 63 ∧ ∀ i : Int, Q (.int i) H
def spDice : Sp := fun vs H Q _ => ∃ c : Int, vs = [.int c] ∧ ∀ (d : Addr) (H' : Hp), Same H H' → H d = none → DiceAt H' d → Q (.ref d) H'
def spRoll : Sp := fun vs H Q _ => ∃ (d : Addr) (m : Int), vs = [.ref d, .int m] ∧ DiceAt H d ∧ 0 < m ∧ m < 1000000 ∧ ∀ (r : Int) (H' : Hp), 0 ≤ r → r < m → But d H H' → DiceAt H' d → Q (.int r) H'
def spNames : Sp := fun vs H Q _ => ∃ (c m : Int), vs = [.int c, .int m] ∧ 0 ≤ m ∧ m ≤ 100 ∧ ∀ (l : Addr) (H' : Hp) (nms : List Str), Same H H' → H l = none → H' l = some (.lst (nms.map V.str)) → (nms.length : Int) = m → (∀ s ∈ nms, NameOk s) → Q (.ref l) H'
structure TxtL (K : PySem.W.Frag) (mg : Str → Option Value) : Prop where
  len : mg "len" = none
  int : mg "int" = none
  range : mg "range" = none
  str : mg "str" = none
section
variable {P : Program} {w : World} {K : PySem.W.Frag} {mg : Str → Option Value} {base : Heap} {f : Addr} {fd : FuncData}
theorem ok_cell (F : Fun K "_law_cell_at" "_law_cell_at" s_law_cell_at f fd) (T : TxtL K mg) : FnOk P w K mg base CX0 1 f fd ["_law_script", "_law_k"] (spCell K) := by
  refine F.ok sc_law_cell_at (fun vs H Q E h => ?_) (fun cdv A outer s H vs Q E hr h => ?_)
  · obtain ⟨a, ns, k, rfl, _⟩ := h
    rfl
  obtain ⟨a, ns, k, rfl, hS, h63, q⟩ := h
  refine ⟨_, pss_cons (ps_if (pt_cmpR op_lt (pv 1) (pe_callB call_len_seq (by rfl) T.len PySem.boot_len (pa_cons (pv 0) pa_nil)) (nomark _)) (pss_one (ps_ret (pe_ix ix_list (pv 0) (pv 1) (fun _ _ => rfl)))) pss_nil)
    (pss_one (ps_ret pe_int)), ?_⟩
  refine ⟨_, rfl, _, rfl, a, _, rfl, .inl hS, _, _, rfl, rfl, _, rfl, ?_⟩
  refine ite2 (fun c => ?_) (fun c => ?_)
  · have c' : (k : Int) < (((ns.map V.int).length : Nat) : Int) := of_decide_eq_true c
    rw [List.length_map] at c'
    have hk : k < ns.length := by omega
    refine ⟨_, rfl, _, rfl, a, _, _, _, rfl, rfl, hS, atI_nat (v := .int ns[k]) ?_, q _⟩
    rw [List.getElem?_map, List.getElem?_eq_getElem hk]
    rfl
  · exact q 0
theorem ok_dice (F : Fun K "_law_dice" "_law_dice" s_law_dice f fd) (T : TxtL K mg) : FnOk P w K mg base CX0 1 f fd ["_law_cell"] spDice := by
  refine F.ok sc_law_dice (fun vs H Q E h => ?_) (fun cdv A outer s H vs Q E hr h => ?_)
  · obtain ⟨c, rfl, _⟩ := h
    rfl
  obtain ⟨c, rfl, q⟩ := h
  refine ⟨_, pss_one (ps_ret (pe_lst (pa_cons (pe_op op_mod (pv 0) pe_int) (pa_cons (pe_op op_mul (pe_op op_fdivW (pv 0) pe_int) (pe_callTy call_int1 (by rfl) T.int (by decide +kernel) (pa_cons (pe_cmpR op_ge (pv 0) (pe_op op_pow pe_int pe_int) (nomark _)) pa_nil))) pa_nil)))), ?_⟩
  refine ⟨_, rfl, _, _, rfl, rfl, (by show (0 : Int) < 2147483647; decide), _, rfl, _, _, rfl, rfl, wide_div (b := 40) (by decide) (by decide) (by decide) (by decide), ?_⟩
  refine ⟨_, rfl, _, _, rfl, rfl, ⟨by decide, by decide, by decide⟩, _, _, rfl, rfl, .inr ⟨_, rfl, ?_⟩⟩
  have hb : (0 : Int) ≤ (if decide ((10 : Int) ^ (Int.toNat 18) ≤ c) = true then 1 else 0) ∧ (if decide ((10 : Int) ^ (Int.toNat 18) ≤ c) = true then (1 : Int) else 0) < 2 := by split <;> decide
  refine ⟨_, _, rfl, rfl, .inr ⟨by omega, by omega⟩, (by show 2 ≤ sizeLine; decide), fun d hd => ?_⟩
  refine q d _ (same_new hd _) hd ⟨_, _, upd_same, Int.emod_nonneg _ (by decide), Int.emod_lt_of_pos _ (by decide), ?_⟩
  by_cases hc : (10 : Int) ^ (Int.toNat 18) ≤ c
  · rw [decide_eq_true hc, if_pos rfl, Int.mul_one]
    have hc0 : 0 ≤ c := Int.le_trans (by decide) hc
    exact Int.ediv_nonneg hc0 (by decide)
  · rw [decide_eq_false hc, if_neg Bool.false_ne_true, Int.mul_zero]
    exact Int.le_refl 0
theorem ok_roll (F : Fun K "_law_roll" "_law_roll" s_law_roll f fd) : FnOk P w K mg base CX0 1 f fd ["_law_dice_here", "_law_most"] spRoll := by
  refine F.ok sc_law_roll (fun vs H Q E h => ?_) (fun cdv A outer s H vs Q E hr h => ?_)
  · obtain ⟨d, m, rfl, _⟩ := h
    rfl
  obtain ⟨d, m, rfl, ⟨x, y, hd, hx0, hx1, hy0⟩, hm0, hm1, q⟩ := h
  refine ⟨_, pss_cons (ps_if (pt_cmpR op_gt (pe_ix ix_list (pv 0) pe_int (fun _ _ => rfl)) pe_int (nomark _))
      (pss_cons (ps_set (i := 2) sc_law_roll.nd rfl (.inl rfl) (pe_op op_mod (pe_ix ix_list (pv 0) pe_int (fun _ _ => rfl)) (pv 1)))
      (pss_cons (ps_asg (pe_op op_fdiv (pe_ix ix_list (pv 0) pe_int (fun _ _ => rfl)) (pv 1)) (pg_sub (pv 0) pe_int set_list))
      (pss_one (ps_ret (pv 2))))) pss_nil)
    (pss_cons (ps_asg (pe_op op_mod (pe_op op_add (pe_op op_mul (pe_ix ix_list (pv 0) pe_int (fun _ _ => rfl)) pe_int) pe_int) pe_int) (pg_sub (pv 0) pe_int set_list))
    (pss_one (ps_ret (pe_op op_mod (pe_op op_fdiv (pe_ix ix_list (pv 0) pe_int (fun _ _ => rfl)) pe_int) (pv 1))))), ?_⟩
  have at1 : atI ([.int x, .int y] : List V) 1 = some (.int y) := rfl
  have at0 : atI ([.int x, .int y] : List V) 0 = some (.int x) := rfl
  refine ⟨_, rfl, d, _, _, _, rfl, rfl, SqL.of hd, at1, _, _, rfl, rfl, _, rfl, ?_⟩
  refine ite2 (fun c => ?_) (fun c => ?_)
  · refine ⟨_, rfl, d, _, _, _, rfl, rfl, SqL.of hd, at1, _, rfl, _, _, rfl, rfl, hm0, ?_⟩
    refine ⟨_, rfl, d, _, _, _, rfl, rfl, SqL.of hd, at1, _, rfl, _, _, rfl, rfl, ⟨hm0, by omega⟩, ?_⟩
    refine ⟨_, rfl, d, _, _, 1, rfl, rfl, hd, rfl, ?_⟩
    refine ⟨_, rfl, ?_⟩
    exact q _ _ (Int.emod_nonneg _ (by omega)) (Int.emod_lt_of_pos _ hm0) (But.upd _) ⟨x, y / m, upd_same, hx0, hx1, Int.ediv_nonneg hy0 (by omega)⟩
  · refine ⟨_, rfl, d, _, _, _, rfl, rfl, SqL.of hd, at0, _, _, rfl, rfl, .inl ⟨by omega, by omega⟩, _, _, rfl, rfl, _, _, rfl, rfl, (by show (0 : Int) < 2147483647; decide), ?_⟩
    refine ⟨_, rfl, d, _, _, 0, rfl, rfl, hd, rfl, ?_⟩
    refine ⟨_, rfl, d, _, _, .int ((x * 48271 + 11) % 2147483647), rfl, rfl, SqL.of upd_same, rfl, _, _, rfl, rfl, ⟨by decide, by decide⟩, _, rfl, _, _, rfl, rfl, hm0, ?_⟩
    exact q _ _ (Int.emod_nonneg _ (by omega)) (Int.emod_lt_of_pos _ hm0) (But.upd _) ⟨_, y, upd_same, Int.emod_nonneg _ (by decide), Int.emod_lt_of_pos _ (by decide), hy0⟩
end
end Aw

namespace Aw
open PySem L2
def spTree (K : PySem.W.Frag) (d : Nat) : Sp := fun vs H Q _ => ∃ (dd nl : Addr) (nms : List Str), vs = [.ref dd, .ref nl, .int (d : Nat)] ∧ DiceAt H dd ∧ H nl = some (.lst (nms.map V.str)) ∧ 0 < nms.length ∧ nms.length ≤ 100 ∧
  ∀ v H' t, But dd H H' → DiceAt H' dd → LA (fresh H H') v t → TOk (· ∈ nms) d t → Q v H'
theorem nl_keep {H H' : Hp} {dd nl : Addr} {nms : List Str} (h : DiceAt H dd) (e : H nl = some (.lst (nms.map V.str))) (h0 : 0 < nms.length) (b : But dd H H') : H' nl = some (.lst (nms.map V.str)) := by
  obtain ⟨x, y, ed, _⟩ := h
  refine b _ _ e (ne_of e ed ?_)
  cases nms with
  | nil => exact absurd h0 (Nat.lt_irrefl 0)
  | cons s r => intro z; cases z
theorem at_strs {nms : List Str} {n : Int} (n0 : 0 ≤ n) (n1 : n < (nms.length : Int)) : ∃ s, s ∈ nms ∧ atI (nms.map V.str) n = some (.str s) := by
  have hk : n.toNat < nms.length := by omega
  refine ⟨nms[n.toNat], List.getElem_mem hk, ?_⟩
  have q : atI (nms.map V.str) ((n.toNat : Nat) : Int) = some (.str nms[n.toNat]) := atI_nat (by rw [List.getElem?_map, List.getElem?_eq_getElem hk]; rfl)
  rwa [show ((n.toNat : Nat) : Int) = n by omega] at q
section
variable {P : Program} {w : World} {K : PySem.W.Frag} {mg : Str → Option Value} {base : Heap} {f : Addr} {fd : FuncData}
theorem ok_tree0 {g : Addr} {gd : FuncData} (F : Fun K "_law_tree" "_law_tree" s_law_tree f fd) (T : TxtL K mg) (GR : FnOk P w K mg base CX0 1 g gd ["_law_dice_here", "_law_most"] spRoll) (bR : Binds K gd ["_law_dice_here", "_law_most"] []) (kR : PySem.W.keepIn K (.ref g) = true) (mR : mg "_law_roll" = some (.ref g)) :
    FnOk P w K mg base CX0 2 f fd ["_law_dice_here", "_law_names_here", "_law_deep"] (spTree K 0) := by
  refine F.ok sc_law_tree (fun vs H Q E h => ?_) (fun cdv A outer s H vs Q E hr h => ?_)
  · obtain ⟨dd, nl, nms, rfl, _⟩ := h
    rfl
  obtain ⟨dd, nl, nms, rfl, hD, hn, h0, h100, q⟩ := h
  have nd := sc_law_tree.nd
  refine ⟨_, pss_cons (ps_set (i := 3) nd rfl (.inl rfl) (pe_call GR hr rfl mR kR bR .nil pass0 (pa_cons (pv 0) (pa_cons pe_int pa_nil))))
    (pss_cons (ps_if (PW.pt (pw_or (pt_cmpR op_eq (pv 2) pe_int (nomark _)) (pw_or1 (pt_cmpR op_lt (pv 3) pe_int (nomark _)))))
      (pss_cons (ps_if (pt_cmpR op_eq (pe_call GR hr rfl mR kR bR .nil pass0 (pa_cons (pv 0) (pa_cons pe_int pa_nil))) pe_int (nomark _))
        (pss_one (ps_ret (pe_tup (pa_cons pe_str (pa_cons (pe_call GR hr rfl mR kR bR .nil pass0 (pa_cons (pv 0) (pa_cons pe_int pa_nil))) pa_nil))))) pss_nil)
      (pss_one (ps_ret (pe_tup (pa_cons pe_str (pa_cons (pe_ix ix_list (pv 1) (pe_call GR hr rfl mR kR bR .nil pass0 (pa_cons (pv 0) (pa_cons (pe_callB call_len_seq (by rfl) T.len PySem.boot_len (pa_cons (pv 1) pa_nil)) pa_nil))) (fun _ _ => rfl)) pa_nil)))))) pss_nil)
    (pss_cons ps_never (pss_cons ps_never (pss_cons ps_never (pss_one ps_never))))), ?_⟩
  refine ⟨_, rfl, dd, 10, rfl, hD, by decide, by decide, fun r H1 _ _ b1 D1 => ?_⟩
  refine ⟨_, rfl, rfl, _, rfl, iteT ?_⟩
  have hn1 := nl_keep hD hn h0 b1
  refine ⟨_, rfl, dd, 3, rfl, D1, by decide, by decide, fun r2 H2 _ _ b2 D2 => ?_⟩
  have hn2 := nl_keep D1 hn1 h0 b2
  refine ⟨rfl, _, rfl, ?_⟩
  refine ite2 (fun _ => ?_) (fun _ => ?_)
  · refine ⟨_, rfl, dd, 31, rfl, D2, by decide, by decide, fun n H3 n0 n1 b3 D3 => ?_⟩
    refine ⟨(by show 2 ≤ sizeLine; decide), fun p hp => ?_⟩
    exact q _ _ (.num n) (((b1.trans b2).trans b3).trans (.of_same (same_new hp _))) (D3.mono (same_new hp _)) (.num (fresh_at (free_of D3 ((b1.trans b2).trans b3) hp) upd_same)) (.mkNum ⟨n0, by omega⟩)
  · refine ⟨_, rfl, _, rfl, _, rfl, nl, _, rfl, .inl (SqL.of hn2), dd, _, rfl, D2, ?_, ?_, fun n H3 n0 n1 b3 D3 => ?_⟩
    · rw [List.length_map]; omega
    · rw [List.length_map]; omega
    · rw [List.length_map] at n1
      have hn3 := nl_keep D2 hn2 h0 b3
      obtain ⟨z, hz, ez⟩ := at_strs n0 n1
      refine ⟨nl, _, n, .str z, rfl, rfl, SqL.of hn3, ez, (by show 2 ≤ sizeLine; decide), fun p hp => ?_⟩
      exact q _ _ (.name z) (((b1.trans b2).trans b3).trans (.of_same (same_new hp _))) (D3.mono (same_new hp _)) (.name (fresh_at (free_of D3 ((b1.trans b2).trans b3) hp) upd_same)) (.mkName hz)
theorem kdOf {r : Int} (h0 : 0 ≤ r) (h1 : r < 3) : ∃ k : Kd, atI ([.str "sum", .str "least", .str "most"] : List V) r = some (.str k.nm) := by
  rcases (by omega : r = 0 ∨ r = 1 ∨ r = 2) with e | e | e
  · subst e; exact ⟨.sum, rfl⟩
  · subst e; exact ⟨.least, rfl⟩
  · subst e; exact ⟨.most, rfl⟩
theorem ok_treeS {d k : Nat} (hk : 1 ≤ k) {g : Addr} {gd : FuncData} (F : Fun K "_law_tree" "_law_tree" s_law_tree f fd) (T : TxtL K mg) (GR : FnOk P w K mg base CX0 1 g gd ["_law_dice_here", "_law_most"] spRoll) (bR : Binds K gd ["_law_dice_here", "_law_most"] []) (kR : PySem.W.keepIn K (.ref g) = true) (mR : mg "_law_roll" = some (.ref g))
    (GT : FnOk P w K mg base CX0 k f fd ["_law_dice_here", "_law_names_here", "_law_deep"] (spTree K d)) (bT : Binds K fd ["_law_dice_here", "_law_names_here", "_law_deep"] []) (mT : mg "_law_tree" = some (.ref f)) :
    FnOk P w K mg base CX0 (k + 1) f fd ["_law_dice_here", "_law_names_here", "_law_deep"] (spTree K (d + 1)) := by
  refine F.ok sc_law_tree (fun vs H Q E h => ?_) (fun cdv A outer s H vs Q E hr0 h => ?_)
  · obtain ⟨dd, nl, nms, rfl, _⟩ := h
    rfl
  obtain ⟨dd, nl, nms, rfl, hD, hn, h0, h100, q⟩ := h
  have nd := sc_law_tree.nd
  have hr : Room 1 _ := hr0.mono (by omega)
  have GTe : FnOk P w K mg base CX0 k f fd ["_law_dice_here", "_law_names_here", "_law_deep"] (spTree K d) := GT
  refine ⟨_, pss_cons (ps_set (i := 3) nd rfl (.inl rfl) (pe_call GR hr rfl mR kR bR .nil pass0 (pa_cons (pv 0) (pa_cons pe_int pa_nil))))
    (pss_cons (ps_if (PW.pt (pw_or (pt_cmpR op_eq (pv 2) pe_int (nomark _)) (pw_or1 (pt_cmpR op_lt (pv 3) pe_int (nomark _)))))
      (pss_cons (ps_if (pt_cmpR op_eq (pe_call GR hr rfl mR kR bR .nil pass0 (pa_cons (pv 0) (pa_cons pe_int pa_nil))) pe_int (nomark _))
        (pss_one (ps_ret (pe_tup (pa_cons pe_str (pa_cons (pe_call GR hr rfl mR kR bR .nil pass0 (pa_cons (pv 0) (pa_cons pe_int pa_nil))) pa_nil))))) pss_nil)
      (pss_one (ps_ret (pe_tup (pa_cons pe_str (pa_cons (pe_ix ix_list (pv 1) (pe_call GR hr rfl mR kR bR .nil pass0 (pa_cons (pv 0) (pa_cons (pe_callB call_len_seq (by rfl) T.len PySem.boot_len (pa_cons (pv 1) pa_nil)) pa_nil))) (fun _ _ => rfl)) pa_nil)))))) pss_nil)
    (pss_cons (ps_if (pt_cmpR op_lt (pv 3) pe_int (nomark _))
      (pss_cons (ps_set (i := 4) nd rfl (.inl rfl) (pe_ix ix_list (pv 1) (pe_call GR hr rfl mR kR bR .nil pass0 (pa_cons (pv 0) (pa_cons (pe_callB call_len_seq (by rfl) T.len PySem.boot_len (pa_cons (pv 1) pa_nil)) pa_nil))) (fun _ _ => rfl)))
      (pss_one (ps_ret (pe_tup (pa_cons pe_str (pa_cons (pv 4) (pa_cons (pe_op op_add pe_int (pe_call GR hr rfl mR kR bR .nil pass0 (pa_cons (pv 0) (pa_cons pe_int pa_nil)))) (pa_cons
        (pe_call GTe hr0 rfl mT F.kp bT .nil pass0 (pa_cons (pv 0) (pa_cons (pv 1) (pa_cons (pe_op op_sub (pv 2) pe_int) pa_nil)))) pa_nil)))))))) pss_nil)
    (pss_cons (ps_set (i := 5) nd rfl (.inl rfl) (pe_ix ix_list (pe_lst (pa_cons pe_str (pa_cons pe_str (pa_cons pe_str pa_nil)))) (pe_call GR hr rfl mR kR bR .nil pass0 (pa_cons (pv 0) (pa_cons pe_int pa_nil))) (fun _ _ => rfl)))
    (pss_cons (ps_set (i := 6) nd rfl (.inl rfl) (pe_op op_add pe_int (pe_call GR hr rfl mR kR bR .nil pass0 (pa_cons (pv 0) (pa_cons pe_int pa_nil)))))
    (pss_one (ps_ret (pe_tup (pa_cons (pv 5) (pa_cons
      (pe_lc (own := [("_law_k", 7)]) (g := gName 7) rfl nd (pi_range1 rfl T.range (pa_cons (pv 6) pa_nil)) (blkOk_by (N := ["_law_dice_here", "_law_names_here", "_law_deep", "_law_way", "_law_name", "_law_kind", "_law_many", "_law_k"]) (sc := defScope s_law_tree) (by decide +kernel))
        (fun _ _ _ _ _ => pg_name (i := 7) nd rfl (.inl rfl)) (fun _ _ _ _ _ => pts_nil)
        (fun _ _ _ _ _ => pe_call GTe hr0 rfl mT F.kp bT .nil pass0 (pa_cons (pv 0) (pa_cons (pv 1) (pa_cons (pe_op op_sub (pv 2) pe_int) pa_nil))))) pa_nil))))))))), ?_⟩
  refine ⟨_, rfl, dd, 10, rfl, hD, by decide, by decide, fun r H1 _ _ b1 D1 => ?_⟩
  refine ⟨_, rfl, rfl, _, rfl, ?_⟩
  rw [show decide (V.int ((d + 1 : Nat) : Int) = V.int 0) = false from decide_eq_false (by intro z; have := V.int.inj z; omega)]
  refine iteF ⟨_, rfl, _, _, rfl, rfl, _, rfl, ?_⟩
  refine ite2 (fun _ => ?_) (fun _ => ?_)
  · have hn1 := nl_keep hD hn h0 b1
    refine ⟨_, rfl, dd, 3, rfl, D1, by decide, by decide, fun r2 H2 _ _ b2 D2 => ?_⟩
    have hn2 := nl_keep D1 hn1 h0 b2
    refine ⟨rfl, _, rfl, ?_⟩
    refine ite2 (fun _ => ?_) (fun _ => ?_)
    · refine ⟨_, rfl, dd, 31, rfl, D2, by decide, by decide, fun n H3 n0 n1 b3 D3 => ?_⟩
      refine ⟨(by show 2 ≤ sizeLine; decide), fun p hp => ?_⟩
      exact q _ _ (.num n) (((b1.trans b2).trans b3).trans (.of_same (same_new hp _))) (D3.mono (same_new hp _)) (.num (fresh_at (free_of D3 ((b1.trans b2).trans b3) hp) upd_same)) (.mkNum ⟨n0, by omega⟩)
    · refine ⟨_, rfl, _, rfl, _, rfl, nl, _, rfl, .inl (SqL.of hn2), dd, _, rfl, D2, ?_, ?_, fun n H3 n0 n1 b3 D3 => ?_⟩
      · rw [List.length_map]; omega
      · rw [List.length_map]; omega
      · rw [List.length_map] at n1
        have hn3 := nl_keep D2 hn2 h0 b3
        obtain ⟨z, hz, ez⟩ := at_strs n0 n1
        refine ⟨nl, _, n, .str z, rfl, rfl, SqL.of hn3, ez, (by show 2 ≤ sizeLine; decide), fun p hp => ?_⟩
        exact q _ _ (.name z) (((b1.trans b2).trans b3).trans (.of_same (same_new hp _))) (D3.mono (same_new hp _)) (.name (fresh_at (free_of D3 ((b1.trans b2).trans b3) hp) upd_same)) (.mkName hz)
  · have hn1 := nl_keep hD hn h0 b1
    have hd1 : ((d + 1 : Nat) : Int) - 1 = (d : Nat) := by omega
    refine ⟨_, rfl, _, _, rfl, rfl, _, rfl, ?_⟩
    refine ite2 (fun _ => ?_) (fun _ => ?_)
    · refine ⟨_, rfl, _, rfl, _, rfl, nl, _, rfl, .inl (SqL.of hn1), dd, _, rfl, D1, ?_, ?_, fun n H2 n0 n1 b2 D2 => ?_⟩
      · rw [List.length_map]; omega
      · rw [List.length_map]; omega
      rw [List.length_map] at n1
      have hn2 := nl_keep D1 hn1 h0 b2
      obtain ⟨z, hz, ez⟩ := at_strs n0 n1
      refine ⟨nl, _, n, .str z, rfl, rfl, SqL.of hn2, ez, ?_⟩
      refine ⟨_, rfl, _, rfl, dd, 30, rfl, D2, by decide, by decide, fun b H3 b0 b1' b3 D3 => ?_⟩
      have hn3 := nl_keep D2 hn2 h0 b3
      have bb := (b1.trans b2).trans b3
      refine ⟨_, _, rfl, rfl, _, rfl, _, rfl, _, rfl, _, _, rfl, rfl, dd, nl, nms, (by rw [← hd1]; rfl), D3, hn3, h0, h100, fun v H4 t b4 D4 lv tk => ?_⟩
      refine ⟨(by show 4 ≤ sizeLine; decide), fun p hp => ?_⟩
      have bb4 := bb.trans b4
      have s5 := same_new hp (.tup [.str "gate", .str z, .int (1 + b), v])
      exact q _ _ (.gate z (1 + b) t) (bb4.trans (.of_same s5)) (D4.mono s5) (.gate (fresh_at (free_of D4 bb4 hp) upd_same) (lv.mono (.of_same (fresh_step D3 bb s5)))) ⟨hz, by omega, by omega, tk⟩
    · refine ⟨(by show 3 ≤ sizeLine; decide), fun a hna => ?_⟩
      have s1 := same_new hna (.lst [.str "sum", .str "least", .str "most"])
      refine ⟨_, rfl, dd, 3, rfl, D1.mono s1, by decide, by decide, fun r2 H2 r20 r21 b2 D2 => ?_⟩
      have nad : a ≠ dd := by
        obtain ⟨x, y, e, _⟩ := D1
        exact (ne_of_none e hna).symm
      obtain ⟨kd, ek⟩ := kdOf r20 r21
      refine ⟨a, _, r2, .str kd.nm, rfl, rfl, SqL.of (b2 _ _ upd_same nad), ek, ?_⟩
      have bb2 := (b1.trans (.of_same s1)).trans b2
      refine ⟨_, rfl, dd, 2, rfl, D2, by decide, by decide, fun r3 H3 r30 r31 b3 D3 => ?_⟩
      have bb3 := bb2.trans b3
      refine ⟨_, _, rfl, rfl, ?_⟩
      refine ⟨_, rfl, _, rfl, 2 + r3, rfl, by omega, by omega, fun D hD' => ?_⟩
      have nDd : D ≠ dd := by
        obtain ⟨x, y, e, _⟩ := D3
        exact (ne_of_none e hD').symm
      have hDH : H D = none := free_of D3 bb3 hD'
      refine lc_range (lo := 0) (n := (2 + r3).toNat) (fun i H' => ∃ vs ts, But dd H H' ∧ DiceAt H' dd ∧ H' D = some (.lst vs) ∧ LAs (hide D (fresh H H')) vs ts ∧ ts.length = i ∧ ∀ t ∈ ts, TOk (· ∈ nms) d t) ?_ ?_ ?_
      · exact ⟨[], [], bb3.trans (.of_same (same_new hD' _)), D3.mono (same_new hD' _), upd_same, .nil, rfl, fun t ht => by cases ht⟩
      · rintro i H4 hi ⟨vs, ts, b4, D4, e4, l4, hl, tk⟩
        refine ⟨rfl, ?_⟩
        refine ⟨_, rfl, _, rfl, _, rfl, _, _, rfl, rfl, dd, nl, nms, (by rw [← hd1]; rfl), D4, nl_keep hD hn h0 b4, h0, h100, fun v H5 t b5 D5 lv tk5 => ?_⟩
        have hlen := l4.length
        have e5 := b5 _ _ e4 nDd
        refine ⟨vs, e5, small1000 (by omega), vs ++ [v], ts ++ [t], ?_, ?_, upd_same, ?_, ?_, ?_⟩
        · intro b o hb hbd
          rw [upd_ne (ne_of_none hb hDH)]
          exact b5 b o (b4 b o hb hbd) hbd
        · obtain ⟨x, y, e, z⟩ := D5
          exact ⟨x, y, by rw [upd_ne nDd.symm]; exact e, z⟩
        · refine LAs.snoc (lv.mono (.of_same fun b o hb => ?_)) (l4.mono (.of_same fun b o hb => ?_))
          · obtain ⟨z1, z2⟩ := fresh_inv hb
            have nb : b ≠ D := by intro z; subst z; rw [e4] at z1; cases z1
            unfold hide
            rw [if_neg nb]
            exact fresh_at (free_of D4 b4 z1) (by rw [upd_ne nb]; exact z2)
          · unfold hide at hb ⊢
            by_cases nb : b = D
            · rw [if_pos nb] at hb; cases hb
            · rw [if_neg nb] at hb ⊢
              obtain ⟨z1, z2⟩ := fresh_inv hb
              have nbd : b ≠ dd := by
                intro z; subst z
                obtain ⟨x, y, e, _⟩ := hD
                rw [z1] at e; cases e
              exact fresh_at z1 (by rw [upd_ne nb]; exact b5 b o z2 nbd)
        · rw [List.length_append, List.length_singleton, hl]
        · intro t' ht'
          rcases List.mem_append.mp ht' with z | z
          · exact tk t' z
          · rw [List.mem_singleton.mp z]; exact tk5
      · rintro H4 ⟨vs, ts, b4, D4, e4, l4, hl, tk⟩
        refine ⟨(by show 2 ≤ sizeLine; decide), fun p hp => ?_⟩
        have s5 := same_new hp (.tup [.str kd.nm, .ref D])
        refine q _ _ (.join kd ts) (b4.trans (.of_same s5)) (D4.mono s5) (.join (fresh_at (free_of D4 b4 hp) upd_same) (fresh_at hDH (s5 _ _ e4)) (by omega) (l4.mono (.of_same fun b o hb => ?_))) ⟨by omega, by omega, tk⟩
        unfold hide at hb
        by_cases nb : b = D
        · rw [if_pos nb] at hb; cases hb
        · rw [if_neg nb] at hb
          obtain ⟨z1, z2⟩ := fresh_inv hb
          exact fresh_at z1 (s5 b o z2)
end
end Aw

namespace Aw
open PySem L2
section
variable {P : Program} {w : World} {K : PySem.W.Frag} {mg : Str → Option Value} {base : Heap} {f : Addr} {fd : FuncData}
theorem let_at {n : Int} (h0 : 0 ≤ n) (h1 : n < 26) : ∃ c, c ∈ LET ∧ atI (("abcdefghijklmnopqrstuvwxyz" : Str)).cps.toList n = some c := by
  have hk : n.toNat < LET.length := by
    have e : LET.length = 26 := by decide +kernel
    omega
  refine ⟨LET[n.toNat], List.getElem_mem hk, ?_⟩
  have q : atI LET ((n.toNat : Nat) : Int) = some LET[n.toNat] := atI_nat (List.getElem?_eq_getElem hk)
  rwa [show ((n.toNat : Nat) : Int) = n by omega] at q
theorem nameOk_of {z : Str} (h1 : 1 ≤ z.length) (h6 : z.length ≤ 6) (h : ∀ c ∈ z.cps.toList, c ∈ LET) : NameOk z := by
  unfold NameOk nameM
  rw [decide_eq_true (show 1 ≤ z.length ∧ z.length ≤ 6 from ⟨h1, h6⟩), Bool.true_and, List.all_eq_true]
  exact fun c hc => decide_eq_true (h c hc)
theorem mem_app1 {z : Str} {c : Nat} (h : ∀ x ∈ z.cps.toList, x ∈ LET) (hc : c ∈ LET) : ∀ x ∈ (z ++ sg1 c).cps.toList, x ∈ LET := by
  intro x hx
  have e : (z ++ sg1 c).cps.toList = z.cps.toList ++ [c] := by
    show (z.cps ++ #[c]).toList = _
    rw [Array.toList_append]
  rw [e] at hx
  rcases List.mem_append.mp hx with q | q
  · exact h x q
  · rw [List.mem_singleton.mp q]; exact hc
theorem ok_names (F : Fun K "_law_names" "_law_names" s_law_names f fd) (T : TxtL K mg) : FnOk P w K mg base CX0 1 f fd ["_law_cell", "_law_many"] spNames := by
  refine F.ok sc_law_names (fun vs H Q E h => ?_) (fun cdv A outer s H vs Q E hr h => ?_)
  · obtain ⟨c, m, rfl, _⟩ := h
    rfl
  obtain ⟨c, m, rfl, m0, m1, q⟩ := h
  have nd := sc_law_names.nd
  refine ⟨_, pss_cons (ps_set (i := 2) nd rfl (.inl rfl) pe_str)
    (pss_cons (ps_set (i := 3) nd rfl (.inl rfl) (pe_op op_add pe_int (pe_op op_mod (pv 0) pe_int)))
    (pss_cons (ps_set (i := 4) nd rfl (.inl rfl) (pe_op op_mod (pe_op op_fdiv (pv 0) pe_int) (pv 3)))
    (pss_cons (ps_set (i := 5) nd rfl (.inl rfl) (pe_lst pa_nil))
    (pss_cons (ps_for PassesOwn.never rfl (pi_range1 rfl T.range (pa_cons (pv 1) pa_nil)) (pg_name (i := 6) nd rfl (.inl rfl))
      (pss_cons (ps_set (i := 7) nd rfl (.inl rfl) pe_str)
      (pss_cons (ps_for PassesOwn.never rfl (pi_range1 rfl T.range (pa_cons (pv 3) pa_nil)) (pg_name (i := 8) nd rfl (.inl rfl))
        (pss_cons (ps_set (i := 9) nd rfl (.inl rfl) (pe_op op_add (pe_op op_mod (pe_op op_fdiv (pv 0) pe_int) pe_int) (pe_op op_mul pe_int (pv 8))))
        (pss_cons (ps_if (pt_cmpR op_eq (pv 8) (pv 4) (nomark _)) (pss_one (ps_set (i := 9) nd rfl (.inl rfl) (pe_op op_add (pv 9) (pv 6)))) pss_nil)
        (pss_one (ps_set (i := 7) nd rfl (.inl rfl) (pe_op op_add_str (pv 7) (pe_ix ix_str (pv 2) (pe_op op_mod (pv 9) pe_int) (fun _ _ => rfl))))))))
      (pss_one (ps_expr (pe_bm PySem.F.plainAttrs_list PySem.F.slot_list_append PySem.F.type_list_append mt_append (pv 5) (pa_cons (pv 7) pa_nil)))))))
    (pss_one (ps_ret (pv 5))))))), ?_⟩
  have hs0 : 0 ≤ c % 6 := Int.emod_nonneg _ (by decide)
  have hs1 : c % 6 < 6 := Int.emod_lt_of_pos _ (by decide)
  refine ⟨_, rfl, _, _, rfl, rfl, (by show (0 : Int) < 6; decide), _, _, rfl, rfl, ?_⟩
  refine ⟨_, rfl, _, _, rfl, rfl, ⟨by decide, by decide⟩, _, rfl, _, _, rfl, rfl, (by show 0 < 1 + c % 6; omega), ?_⟩
  refine ⟨(by show 0 ≤ sizeLine; decide), fun l hl => ?_⟩
  refine ⟨_, rfl, m, rfl, by omega, by omega, ?_⟩
  refine for_range (lo := 0) (n := m.toNat) (fun i σ H' => ∃ (nms : List Str) (v6 v7 v8 v9 : Option V), σ = [some (.int c), some (.int m), some (.str "abcdefghijklmnopqrstuvwxyz"), some (.int (1 + c % 6)), some (.int (c / 6 % (1 + c % 6))), some (.ref l), v6, v7, v8, v9] ∧
    Same H H' ∧ H' l = some (.lst (nms.map V.str)) ∧ nms.length = i ∧ ∀ s ∈ nms, NameOk s) ⟨[], none, none, none, none, rfl, same_new hl _, upd_same, rfl, fun s hs => by cases hs⟩ ?_ ?_
  · rintro i σ H1 hi ⟨nms, v6, v7, v8, v9, rfl, s1, e1, hlen, hok⟩
    refine ⟨_, rfl, 1 + c % 6, rfl, by omega, by omega, ?_⟩
    refine for_range (lo := 0) (n := (1 + c % 6).toNat) (fun j σ H' => ∃ (z : Str) (v8 v9 : Option V), σ = [some (.int c), some (.int m), some (.str "abcdefghijklmnopqrstuvwxyz"), some (.int (1 + c % 6)), some (.int (c / 6 % (1 + c % 6))), some (.ref l), some (.int (0 + (i : Int))), some (.str z), v8, v9] ∧
      H' = H1 ∧ z.length = j ∧ ∀ x ∈ z.cps.toList, x ∈ LET) ⟨Str.empty, _, _, rfl, rfl, rfl, fun x hx => by cases hx⟩ ?_ ?_
    · rintro j σ H2 hj ⟨z, v8, v9, rfl, rfl, hz, hl'⟩
      refine ⟨_, rfl, _, _, rfl, rfl, ⟨by decide, by decide⟩, _, _, rfl, rfl, (by show (0 : Int) < 26; decide), _, rfl, _, _, rfl, rfl, .inl ⟨by decide, by decide⟩, _, _, rfl, rfl, ?_⟩
      refine ⟨_, rfl, _, rfl, rfl, _, rfl, ?_⟩
      have hz6 : (j : Int) < 6 := by omega
      refine ite2 (fun _ => ?_) (fun _ => ?_)
      · refine ⟨_, rfl, _, rfl, _, _, rfl, rfl, ?_⟩
        obtain ⟨ch, hc, ec⟩ := let_at (n := (c / 36 % 26 + 5 * (0 + (j : Int)) + (0 + (i : Int))) % 26) (Int.emod_nonneg _ (by decide)) (Int.emod_lt_of_pos _ (by decide))
        refine ⟨_, rfl, _, rfl, _, rfl, _, _, rfl, rfl, (by show (0 : Int) < 26; decide), _, _, ch, rfl, rfl, (by decide +kernel), ec, z, sg1 ch, rfl, rfl, big (by rw [len_sg1]; omega), ?_⟩
        exact ⟨z ++ sg1 ch, _, _, rfl, rfl, by rw [len_app, len_sg1, hz], mem_app1 hl' hc⟩
      · obtain ⟨ch, hc, ec⟩ := let_at (n := (c / 36 % 26 + 5 * (0 + (j : Int))) % 26) (Int.emod_nonneg _ (by decide)) (Int.emod_lt_of_pos _ (by decide))
        refine ⟨_, rfl, _, rfl, _, rfl, _, _, rfl, rfl, (by show (0 : Int) < 26; decide), _, _, ch, rfl, rfl, (by decide +kernel), ec, z, sg1 ch, rfl, rfl, big (by rw [len_sg1]; omega), ?_⟩
        exact ⟨z ++ sg1 ch, _, _, rfl, rfl, by rw [len_app, len_sg1, hz], mem_app1 hl' hc⟩
    · rintro σ H2 ⟨z, v8, v9, rfl, rfl, hz, hl'⟩
      refine ⟨_, rfl, .inl ⟨rfl, _, SqL.of e1⟩, _, rfl, l, _, _, rfl, rfl, e1, small1000 (by rw [List.length_map]; omega), ?_⟩
      refine ⟨nms ++ [z], _, _, _, _, rfl, same_upd s1 hl _, (by rw [upd_same, List.map_append]; rfl), by rw [List.length_append, List.length_singleton, hlen], fun s hs => ?_⟩
      rcases List.mem_append.mp hs with q | q
      · exact hok s q
      · rw [List.mem_singleton.mp q]
        exact nameOk_of (by omega) (by omega) hl'
  · rintro σ H1 ⟨nms, v6, v7, v8, v9, rfl, s1, e1, hlen, hok⟩
    exact ⟨_, rfl, q l H1 nms s1 hl e1 (by omega) hok⟩
end
end Aw

namespace Aw
open PySem L2
def spWritten (d : Nat) : Sp := fun vs H Q _ => ∃ (v : V) (t : T) (firm : Int), vs = [v, .int firm] ∧ LA H v t ∧ TOk NameOk d t ∧ ∀ H', Same H H' → Q (.str (wr firm t)) H'
theorem nameOk_len {s : Str} (h : NameOk s) : s.length ≤ 6 := by
  unfold NameOk nameM at h
  have := (Bool.and_eq_true_iff.mp h).1
  exact (of_decide_eq_true this).2
theorem LB_le : ∀ {d : Nat}, d ≤ 2 → LB d ≤ 200
  | 0, _ => by decide
  | 1, _ => by decide
  | 2, _ => by decide
  | _ + 3, h => by omega
def rankKvs : List (Key × V) := [(Sum.inr "most", .int 1), (Sum.inr "least", .int 2), (Sum.inr "sum", .int 3)]
def sepKvs : List (Key × V) := [(Sum.inr "most", .str " | "), (Sum.inr "least", .str " & "), (Sum.inr "sum", .str " + ")]
theorem rank_get (k : Kd) : valV (mergeK [] rankKvs) (Sum.inr k.nm) = some (.int k.rank) := by cases k <;> decide +kernel
theorem sep_get (k : Kd) : valV (mergeK [] sepKvs) (Sum.inr k.nm) = some (.str k.sep) := by cases k <;> decide +kernel
theorem kd_num (k : Kd) : decide (V.str k.nm = V.str "number") = false := by cases k <;> decide +kernel
theorem kd_name (k : Kd) : decide (V.str k.nm = V.str "name") = false := by cases k <;> decide +kernel
theorem kd_gate (k : Kd) : decide (V.str k.nm = V.str "gate") = false := by cases k <;> decide +kernel
theorem cut1 {v : V} {r : List V} : cutV (v :: r) (some 1) none = r := by
  unfold cutV
  rw [HT.sIx_none, show HT.sIx (v :: r).length 0 (some 1) = 1 by rw [show (1 : Int) = ((1 : Nat) : Int) from rfl, HT.sIx_nat, List.length_cons]; omega]
  show (r.take ((v :: r).length - 1)) = r
  rw [List.length_cons, Nat.add_sub_cancel, List.take_length]
section
variable {P : Program} {w : World} {K : PySem.W.Frag} {mg : Str → Option Value} {base : Heap} {f : Addr} {fd : FuncData}
theorem ok_written0 (F : Fun K "_law_written" "_law_written" s_law_written f fd) (T : TxtL K mg) : FnOk P w K mg base CX0 1 f fd ["_law_tree_here", "_law_firm"] (spWritten 0) := by
  refine F.ok sc_law_written (fun vs H Q E h => ?_) (fun cdv A outer s H vs Q E hr h => ?_)
  · obtain ⟨v, t, firm, rfl, _⟩ := h
    rfl
  obtain ⟨v, t, firm, rfl, lv, tk, q⟩ := h
  have nd := sc_law_written.nd
  refine ⟨_, pss_cons (ps_if (pt_cmpR op_eq (pe_ix ix_tup (pv 0) pe_int (fun _ _ => rfl)) pe_str (nomark _)) (pss_one (ps_ret (pe_callTy call_str_int (by rfl) T.str (by decide +kernel) (pa_cons (pe_ix ix_tup (pv 0) pe_int (fun _ _ => rfl)) pa_nil)))) pss_nil)
    (pss_cons (ps_if (pt_cmpR op_eq (pe_ix ix_tup (pv 0) pe_int (fun _ _ => rfl)) pe_str (nomark _)) (pss_one (ps_ret (pe_ix ix_tup (pv 0) pe_int (fun _ _ => rfl)))) pss_nil)
    (pss_cons ps_never (pss_cons ps_never (pss_cons ps_never (pss_cons ps_never (pss_cons ps_never (pss_cons ps_never (pss_one ps_never)))))))), ?_⟩
  cases lv with
  | @num a n e =>
    have tk := tk.num
    exact ⟨_, rfl, a, _, _, _, rfl, rfl, SqT.of e, rfl, rfl, _, rfl, iteT ⟨_, rfl, a, _, _, _, rfl, rfl, SqT.of e, rfl, n, rfl, small_tx tk.1 (by omega), q H (Same.refl H)⟩⟩
  | @name a z e =>
    refine ⟨_, rfl, a, _, _, _, rfl, rfl, SqT.of e, rfl, rfl, _, rfl, ?_⟩
    refine iteF ⟨_, rfl, a, _, _, _, rfl, rfl, SqT.of e, rfl, rfl, _, rfl, ?_⟩
    exact iteT ⟨_, rfl, a, _, _, _, rfl, rfl, SqT.of e, rfl, q H (Same.refl H)⟩
  | gate e _ => exact tk.elim
  | join e _ _ _ => exact tk.elim
theorem ok_writtenS {d k : Nat} (hd : d + 1 ≤ 2) (hk : 1 ≤ k) (F : Fun K "_law_written" "_law_written" s_law_written f fd) (T : TxtL K mg) (G : FnOk P w K mg base CX0 k f fd ["_law_tree_here", "_law_firm"] (spWritten d)) (b : Binds K fd ["_law_tree_here", "_law_firm"] []) (m : mg "_law_written" = some (.ref f)) :
    FnOk P w K mg base CX0 (k + 1) f fd ["_law_tree_here", "_law_firm"] (spWritten (d + 1)) := by
  refine F.ok sc_law_written (fun vs H Q E h => ?_) (fun cdv A outer s H vs Q E hr h => ?_)
  · obtain ⟨v, t, firm, rfl, _⟩ := h
    rfl
  obtain ⟨v, t, firm, rfl, lv, tk, q⟩ := h
  have nd := sc_law_written.nd
  have hu := hu_of hr
  refine ⟨_, pss_cons (ps_if (pt_cmpR op_eq (pe_ix ix_tup (pv 0) pe_int (fun _ _ => rfl)) pe_str (nomark _)) (pss_one (ps_ret (pe_callTy call_str_int (by rfl) T.str (by decide +kernel) (pa_cons (pe_ix ix_tup (pv 0) pe_int (fun _ _ => rfl)) pa_nil)))) pss_nil)
    (pss_cons (ps_if (pt_cmpR op_eq (pe_ix ix_tup (pv 0) pe_int (fun _ _ => rfl)) pe_str (nomark _)) (pss_one (ps_ret (pe_ix ix_tup (pv 0) pe_int (fun _ _ => rfl)))) pss_nil)
    (pss_cons (ps_if (pt_cmpR op_eq (pe_ix ix_tup (pv 0) pe_int (fun _ _ => rfl)) pe_str (nomark _)) (pss_one (ps_ret
        (pe_op op_add_str (pe_op op_add_str (pe_op op_add_str (pe_op op_add_str (pe_op op_add_str pe_str (pe_ix ix_tup (pv 0) pe_int (fun _ _ => rfl))) pe_str) (pe_callTy call_str_int (by rfl) T.str (by decide +kernel) (pa_cons (pe_ix ix_tup (pv 0) pe_int (fun _ _ => rfl)) pa_nil))) pe_str)
          (pe_call G hr rfl m F.kp b .nil pass0 (pa_cons (pe_ix ix_tup (pv 0) pe_int (fun _ _ => rfl)) (pa_cons pe_int pa_nil)))))) pss_nil)
    (pss_cons (ps_set (i := 2) nd rfl (.inl rfl) (pe_dget hu (pe_disp (pps_cons pe_str pe_int (pps_cons pe_str pe_int (pps_cons pe_str pe_int pps_nil))) (by rfl) (by rfl) (fun z => by cases z) (by decide)) (pe_ix ix_tup (pv 0) pe_int (fun _ _ => rfl)) (fun _ _ => rfl)))
    (pss_cons (ps_set (i := 3) nd rfl (.inl rfl) (pe_dget hu (pe_disp (pps_cons pe_str pe_str (pps_cons pe_str pe_str (pps_cons pe_str pe_str pps_nil))) (by rfl) (by rfl) (fun z => by cases z) (by decide)) (pe_ix ix_tup (pv 0) pe_int (fun _ _ => rfl)) (fun _ _ => rfl)))
    (pss_cons (ps_set (i := 4) nd rfl (.inl rfl) (pe_call G hr rfl m F.kp b .nil pass0 (pa_cons (pe_ix ix_list (pe_ix ix_tup (pv 0) pe_int (fun _ _ => rfl)) pe_int (fun _ _ => rfl)) (pa_cons (pe_op op_add (pv 2) pe_int) pa_nil))))
    (pss_cons (ps_for PassesOwn.never rfl (pi_list (pe_slice sl_list (pe_ix ix_tup (pv 0) pe_int (fun _ _ => rfl)) (po_some pe_int) po_none)) (pg_name (i := 5) nd rfl (.inl rfl))
      (pss_one (ps_set (i := 4) nd rfl (.inl rfl) (pe_op op_add_str (pe_op op_add_str (pv 4) (pv 3)) (pe_call G hr rfl m F.kp b .nil pass0 (pa_cons (pv 5) (pa_cons (pe_op op_add (pv 2) pe_int) pa_nil)))))))
    (pss_cons (ps_if (pt_cmpR op_lt (pv 2) (pv 1) (nomark _)) (pss_one (ps_ret (pe_op op_add_str (pe_op op_add_str pe_str (pv 4)) pe_str))) pss_nil)
    (pss_one (ps_ret (pv 4)))))))))), ?_⟩
  cases lv with
  | @num a n e =>
    have tk := tk.num
    exact ⟨_, rfl, a, _, _, _, rfl, rfl, SqT.of e, rfl, rfl, _, rfl, iteT ⟨_, rfl, a, _, _, _, rfl, rfl, SqT.of e, rfl, n, rfl, small_tx tk.1 (by omega), q H (Same.refl H)⟩⟩
  | @name a z e =>
    refine ⟨_, rfl, a, _, _, _, rfl, rfl, SqT.of e, rfl, rfl, _, rfl, ?_⟩
    refine iteF ⟨_, rfl, a, _, _, _, rfl, rfl, SqT.of e, rfl, rfl, _, rfl, ?_⟩
    exact iteT ⟨_, rfl, a, _, _, _, rfl, rfl, SqT.of e, rfl, q H (Same.refl H)⟩
  | @gate a z bd v1 t1 e lv1 =>
    obtain ⟨hz, h1, h30, tk1⟩ := tk
    have l1 := nameOk_len hz
    have l2 := tx_len (n := bd) ⟨by omega, h30⟩
    have l3 := wr_len (fun s h => nameOk_len h) d 4 tk1
    have lb := LB_le (d := d) (by omega)
    refine ⟨_, rfl, a, _, _, _, rfl, rfl, SqT.of e, rfl, rfl, _, rfl, ?_⟩
    refine iteF ⟨_, rfl, a, _, _, _, rfl, rfl, SqT.of e, rfl, rfl, _, rfl, ?_⟩
    refine iteF ⟨_, rfl, a, _, _, _, rfl, rfl, SqT.of e, rfl, rfl, _, rfl, ?_⟩
    refine iteT ⟨_, rfl, a, _, _, _, rfl, rfl, SqT.of e, rfl, _, z, rfl, rfl, ?_, _, _, rfl, rfl, ?_, ?_⟩
    · exact big (by show 1 + z.length ≤ _; omega)
    · rw [len_app]; exact big (by show 1 + z.length + 1 ≤ _; omega)
    refine ⟨_, rfl, a, _, _, _, rfl, rfl, SqT.of e, rfl, bd, rfl, small_tx (by omega) (by omega), _, tx bd, rfl, rfl, ?_, _, _, rfl, rfl, ?_, ?_⟩
    · rw [len_app, len_app]; exact big (by show 1 + z.length + 1 + (tx bd).length ≤ _; omega)
    · rw [len_app, len_app, len_app]; exact big (by show 1 + z.length + 1 + (tx bd).length + 2 ≤ _; omega)
    refine ⟨_, rfl, a, _, _, _, rfl, rfl, SqT.of e, rfl, v1, t1, 4, rfl, lv1, tk1, fun H' s' => ?_⟩
    refine ⟨_, _, rfl, rfl, ?_, ?_⟩
    · rw [len_app, len_app, len_app, len_app]; exact big (by show 1 + z.length + 1 + (tx bd).length + 2 + (wr 4 t1).length ≤ _; omega)
    · have r := q H' s'
      unfold wr at r
      exact r
  | @join a p kd vs ts e e2 h0 lvs =>
    obtain ⟨h2, h3, tks⟩ := tk
    have lb := LB_le (d := d) (by omega)
    refine ⟨_, rfl, a, _, _, _, rfl, rfl, SqT.of e, rfl, rfl, _, rfl, ?_⟩
    rw [kd_num]
    refine iteF ⟨_, rfl, a, _, _, _, rfl, rfl, SqT.of e, rfl, rfl, _, rfl, ?_⟩
    rw [kd_name]
    refine iteF ⟨_, rfl, a, _, _, _, rfl, rfl, SqT.of e, rfl, rfl, _, rfl, ?_⟩
    rw [kd_gate]
    refine iteF (fun p1 hp1 => ?_)
    have s1 : Same H (upd (upd H p1 (.dK [])) p1 (.dK (mergeK [] rankKvs))) := same_upd (same_new hp1 _) hp1 _
    refine ⟨upd_same, rankKvs, rfl, by decide, ?_⟩
    refine ⟨_, rfl, a, _, _, _, rfl, rfl, SqT.of (s1 _ _ e), rfl, p1, .int kd.rank, rfl, ?_, ?_⟩
    · rw [← rank_get kd]; exact DGet.k (k := Sum.inr kd.nm) upd_same
    intro p2 hp2
    generalize eH1 : upd (upd H p1 (.dK [])) p1 (.dK (mergeK [] rankKvs)) = H1 at s1 hp2 ⊢
    have s2 : Same H1 (upd (upd H1 p2 (.dK [])) p2 (.dK (mergeK [] sepKvs))) := same_upd (same_new hp2 _) hp2 _
    refine ⟨upd_same, sepKvs, rfl, by decide, ?_⟩
    refine ⟨_, rfl, a, _, _, _, rfl, rfl, SqT.of (s2 _ _ (s1 _ _ e)), rfl, p2, .str kd.sep, rfl, ?_, ?_⟩
    · rw [← sep_get kd]; exact DGet.k (k := Sum.inr kd.nm) upd_same
    generalize eH2 : upd (upd H1 p2 (.dK [])) p2 (.dK (mergeK [] sepKvs)) = H2 at s2 ⊢
    have s02 := s1.trans s2
    cases lvs with
    | nil => exact absurd h0 (Nat.lt_irrefl 0)
    | @cons v0 t0 vr tr lv0 lvr =>
      have hn : ∀ t ∈ t0 :: tr, (wr (kd.rank + 1) t).length ≤ LB d := fun t ht => wr_len (fun s h => nameOk_len h) d _ (tks t ht)
      have bnd : ∀ i, (wrs kd.sep (kd.rank + 1) (t0 :: tr.take i)).length ≤ 1000 := fun i => by
        have q1 := wrs_len (f := kd.rank + 1) (B := LB d) (sep_len kd) (ts := t0 :: tr.take i) (by intro z; cases z) fun t ht => hn t (by
          rcases List.mem_cons.mp ht with z | z
          · exact z ▸ List.mem_cons_self
          · exact List.mem_cons_of_mem _ (List.mem_of_mem_take z))
        have q2 : (t0 :: tr.take i).length ≤ 3 := by
          rw [List.length_cons, List.length_take]
          rw [List.length_cons] at h3
          omega
        have q3 : (t0 :: tr.take i).length * (LB d + 3) ≤ 3 * (LB d + 3) := Nat.mul_le_mul_right _ q2
        omega
      refine ⟨_, rfl, a, _, _, _, rfl, rfl, SqT.of (s02 _ _ e), rfl, p, _, _, v0, rfl, rfl, SqL.of (s02 _ _ e2), atI_nat (j := 0) rfl, ?_⟩
      refine ⟨_, rfl, _, _, rfl, rfl, v0, t0, kd.rank + 1, rfl, lv0.mono (.of_same s02), tks t0 List.mem_cons_self, fun H3 s3 => ?_⟩
      have s03 := s02.trans s3
      refine ⟨_, rfl, a, _, _, _, rfl, rfl, SqT.of (s03 _ _ e), rfl, 1, rfl, p, _, rfl, SqL.of (s03 _ _ e2), fun p3 hp3 => ?_⟩
      have s04 := s03.trans (same_new hp3 (.lst (cutV (v0 :: vr) (some 1) none)))
      rw [cut1] at s04 ⊢
      refine ⟨p3, rfl, ⟨_, SqL.of upd_same⟩, for_list (K := K) (a := p3) (xs := vr) (fun i σ H' => ∃ v5 : Option V, σ = [some (.ref a), some (.int firm), some (.int kd.rank), some (.str kd.sep), some (.str (wrs kd.sep (kd.rank + 1) (t0 :: tr.take i))), v5] ∧ Same (upd H3 p3 (.lst vr)) H')
        ⟨none, by rw [List.take_zero, wrs_one]; rfl, Same.refl _⟩ (fun i σ H' _ ⟨_, _, s5⟩ => s5.seq (SqL.of upd_same)) ?_ ?_⟩
      · rintro i x σ H4 hi ⟨v5, rfl, s5⟩
        obtain ⟨t5, ht5, lv5⟩ := lvr.get hi
        have b1 := bnd i
        have b3 := sep_len kd
        have b4 := hn t5 (List.mem_cons_of_mem _ (List.mem_of_getElem? ht5))
        refine ⟨_, rfl, _, rfl, _, _, rfl, rfl, big (by omega), ?_⟩
        refine ⟨_, rfl, _, rfl, _, _, rfl, rfl, x, t5, kd.rank + 1, rfl, lv5.mono (.of_same (s04.trans s5)), tks t5 (List.mem_cons_of_mem _ (List.mem_of_getElem? ht5)), fun H5 s6 => ?_⟩
        refine ⟨_, _, rfl, rfl, ?_, some x, ?_, s5.trans s6⟩
        · rw [len_app]; exact big (by omega)
        · rw [take_more ht5, ← List.cons_append, wrs_snoc _ _ _ (by intro z; cases z)]
          rfl
      · rintro σ H4 ⟨v5, rfl, s5⟩
        have b1 := bnd vr.length
        rw [lvr.length, List.take_length] at b1 ⊢
        have r := q H4 (s04.trans s5)
        unfold wr at r
        refine ⟨_, rfl, _, rfl, _, _, rfl, rfl, _, rfl, ?_⟩
        by_cases c : kd.rank < firm
        · rw [if_pos c] at r
          rw [show decide (kd.rank < firm) = true from decide_eq_true c]
          refine iteT ⟨_, rfl, _, _, rfl, rfl, ?_, _, _, rfl, rfl, ?_, r⟩
          · exact big (by show 1 + (wrs kd.sep (kd.rank + 1) (t0 :: tr)).length ≤ _; omega)
          · rw [len_app]; exact big (by show 1 + (wrs kd.sep (kd.rank + 1) (t0 :: tr)).length + 1 ≤ _; omega)
        · rw [if_neg c] at r
          rw [show decide (kd.rank < firm) = false from decide_eq_false c]
          exact iteF ⟨_, rfl, r⟩
end
end Aw

namespace Aw
open PySem L2
/-- what answer_of and the like ask of what they are given to call -/
structure AskIs (S : Type) where
  o : S → Str → Int
  n : S → Str → S
  D : Str → Prop
  J : Nat → S → Prop
  R : S → Hp → Prop
  M : Addr → Prop
  ok : AskOk o n D J
  mok : ∀ st H, R st H → MOk M H
  fp : Addr → Prop
  tr : ∀ st H b, R st H → fp b → ∃ u, H b = some u
  up : ∀ st H H', R st H → (∀ b, fp b → H' b = H b) → R st H'
theorem AskIs.same {S : Type} (a : AskIs S) {st : S} {H H' : Hp} (h : a.R st H) (s : Same H H') : a.R st H' := a.up st H H' h fun b hb => by
  obtain ⟨u, e⟩ := a.tr st H b h hb
  rw [e, s b u e]
/-- what is new, or stood new, may change -/
theorem AskIs.put {S : Type} (a : AskIs S) {st st0 : S} {H H0 : Hp} (h : a.R st H) (h0 : a.R st0 H0) {D : Addr} (hD : H0 D = none) (u : HO) : a.R st (upd H D u) := a.up st H _ h fun b hb => by
  obtain ⟨v, e⟩ := a.tr st0 H0 b h0 hb
  rw [upd_ne (ne_of_none e hD)]
/-- the asking: the answer, the state behind -/
def AskIs.sp {S : Type} (a : AskIs S) : Sp := fun vs H Q _ => ∃ (s : Str) (st : S), vs = [.str s] ∧ a.D s ∧ a.J 1 st ∧ a.R st H ∧ ∀ H', ButS a.M H H' → a.R (a.n st s) H' → Q (.int (a.o st s)) H'
section
variable {S : Type} (a : AskIs S) (f c : Addr) (qn : Str)
def spAns (m : Nat) : Sp := fun vs H Q _ => ∃ (v : V) (t : T) (st : S), vs = [v, .ref f] ∧ TA H v t ∧ WF t ∧ Nm a.D t ∧ dep t ≤ m ∧ Sz t ≤ 100000 ∧ a.J (cst t) st ∧ a.R st H ∧ LPre c qn H ∧
  ∀ H', ButS a.M H H' → a.R (ans a.o a.n t st).2 H' → Q (.int (ans a.o a.n t st).1) H'
def spGateA (m : Nat) : Sp := fun vs H Q _ => ∃ (v : V) (s : Str) (b : Int) (t : T) (st : S), vs = [v, .ref f] ∧ TA H v (.gate s b t) ∧ WF (.gate s b t) ∧ Nm a.D (.gate s b t) ∧ dep t ≤ m ∧ Sz t ≤ 100000 ∧ a.J (cst (.gate s b t)) st ∧ a.R st H ∧ LPre c qn H ∧
  ∀ H', ButS a.M H H' → a.R (ans a.o a.n (.gate s b t) st).2 H' → Q (.int (ans a.o a.n (.gate s b t) st).1) H'
def spLeastA (m : Nat) : Sp := fun vs H Q _ => ∃ (p : Addr) (xs : List V) (ts : List T) (st : S), vs = [.ref p, .ref f] ∧ H p = some (.tup xs) ∧ TAs H xs ts ∧ 0 < ts.length ∧ WFs ts ∧ Nms a.D ts ∧ deps ts ≤ m ∧ Szs ts ≤ 100000 ∧ a.J (csts ts) st ∧ a.R st H ∧ LPre c qn H ∧
  ∀ H', ButS a.M H H' → a.R (ansl a.o a.n ts 30 st).2 H' → Q (.int (ansl a.o a.n ts 30 st).1) H'
end
structure TxtA (mg : Str → Option Value) : Prop where
  min : mg "min" = none
  max : mg "max" = none
  sum : mg "sum" = none
  gGr : ∃ t, mg "GREATEST" = some (.int 30 t)
theorem ans_gate {S : Type} {o : S → Str → Int} {n : S → Str → S} {s : Str} {b : Int} {t : T} {st : S} : ans o n (.gate s b t) st = if o st s < b then (0, n st s) else ans o n t (n st s) := by
  conv => lhs; unfold ans
theorem szs_len : ∀ l : List T, l.length ≤ Szs l
  | [] => Nat.le_refl 0
  | u :: r => by have := szs_len r; show r.length + 1 ≤ Sz u + 3 + Szs r; omega
section
variable {P : Program} {w : World} {K : PySem.W.Frag} {mg : Str → Option Value} {base : Heap} {S : Type} {a : AskIs S} {f c : Addr} {qn : Str} {kc : Nat} (CL : Clo P w K mg base CX0 kc f (LPre c qn) a.sp)
include CL
theorem ok_gateA {m k : Nat} (hk : kc ≤ k) {e g : Addr} {ed gd : FuncData} (F : Fun K "gate_answer" "gate_answer" s_gate_answer e ed) (G : FnOk P w K mg base CX0 k g gd ["recipe", "ask"] (spAns a f c qn m)) (b : Binds K gd ["recipe", "ask"] []) (kG : PySem.W.keepIn K (.ref g) = true) (mG : mg "answer_of" = some (.ref g)) :
    FnOk P w K mg base CX0 (k + 1) e ed ["recipe", "ask"] (spGateA a f c qn m) := by
  refine F.ok sc_gate_answer (fun vs H Q E h => ?_) (fun cdv A outer s H vs Q E hr h => ?_)
  · obtain ⟨v, s, b, t, st, rfl, _⟩ := h
    rfl
  obtain ⟨v, s, bd, t, st, rfl, tv, wf, nm, dp, sz, hI, hR, hp, q⟩ := h
  have nd := sc_gate_answer.nd
  refine ⟨_, pss_cons (ps_asg (pv 0) (pg_tup (by rfl) (pgs_cons (pg_name (i := 2) nd rfl (.inl rfl)) (pgs_cons (pg_name (i := 3) nd rfl (.inl rfl)) (pgs_cons (pg_name (i := 4) nd rfl (.inl rfl)) (pgs_cons (pg_name (i := 5) nd rfl (.inl rfl)) pgs_nil))))))
    (pss_cons (ps_if (pt_cmpR op_lt (pe_clo (i := 1) CL (hr.mono hk) pass0 rfl (.inl rfl) (pa_cons (pv 3) pa_nil)) (pv 4) (nomark _)) (pss_one (ps_ret pe_int)) pss_nil)
    (pss_one (ps_ret (pe_call G hr rfl mG kG b .nil pass0 (pa_cons (pv 5) (pa_cons (pv 1) pa_nil)))))), ?_⟩
  cases tv with
  | @gate ad z b2 v1 t1 e tv1 =>
    refine ⟨_, rfl, ad, _, rfl, SqT.of e, rfl, _, _, rfl, _, _, rfl, _, _, rfl, _, _, rfl, rfl, ?_⟩
    refine ⟨rfl, hp, _, rfl, hp, s, st, rfl, nm.1, a.ok.le (k := 1) hI (by show 1 ≤ cst t + 1; omega), hR, fun H1 b1 R1 => ?_⟩
    refine ⟨_, rfl, _, _, rfl, rfl, _, rfl, ?_⟩
    have mk := a.mok st H hR
    rw [ans_gate] at q
    by_cases c1 : a.o st s < bd
    · rw [if_pos c1] at q
      rw [decide_eq_true c1]
      exact iteT (q H1 b1 R1)
    · rw [if_neg c1] at q
      rw [decide_eq_false c1]
      refine iteF ⟨_, rfl, _, rfl, v1, t, a.n st s, rfl, tv1.mono (mk.tups b1), wf.2, nm.2, dp, sz, a.ok.st _ st s hI nm.1, R1, b1 _ _ hp (mk.code hp), fun H2 b2 R2 => ?_⟩
      exact q H2 (b1.trans b2) R2
theorem ok_leastA {m k : Nat} (T : TxtA mg) {e g : Addr} {ed gd : FuncData} (F : Fun K "least_answer" "least_answer" s_least_answer e ed) (G : FnOk P w K mg base CX0 k g gd ["recipe", "ask"] (spAns a f c qn m)) (b : Binds K gd ["recipe", "ask"] []) (kG : PySem.W.keepIn K (.ref g) = true) (mG : mg "answer_of" = some (.ref g)) :
    FnOk P w K mg base CX0 (k + 1) e ed ["pieces", "ask"] (spLeastA a f c qn m) := by
  refine F.ok sc_least_answer (fun vs H Q E h => ?_) (fun cdv A outer s H vs Q E hr h => ?_)
  · obtain ⟨p, xs, ts, st, rfl, _⟩ := h
    rfl
  obtain ⟨p, xs, ts, st, rfl, hx, tas, h0, wf, nm, dp, sz, hI, hR, hp, q⟩ := h
  have nd := sc_least_answer.nd
  refine ⟨_, pss_cons (ps_set (i := 2) nd rfl (.inl rfl) (pe_lst pa_nil))
    (pss_cons (ps_for PassesOwn.never rfl (pi_tup (pv 0)) (pg_name (i := 3) nd rfl (.inl rfl))
      (pss_cons (ps_set (i := 4) nd rfl (.inl rfl) (pe_call G hr rfl mG kG b .nil pass0 (pa_cons (pv 3) (pa_cons (pv 1) pa_nil))))
      (pss_cons (ps_expr (pe_bm PySem.F.plainAttrs_list PySem.F.slot_list_append PySem.F.type_list_append mt_append (pv 2) (pa_cons (pv 4) pa_nil)))
      (pss_one (ps_if (pt_cmpR op_eq (pv 4) pe_int (nomark _)) (pss_one ps_break) pss_nil)))))
    (pss_one (ps_ret (pe_callB (cr_min rfl) (by rfl) T.min (by decide +kernel) (pa_cons (pv 2) pa_nil))))), ?_⟩
  refine ⟨(by show 0 ≤ sizeLine; decide), fun D hD => ?_⟩
  have s1 := same_new hD (.lst [])
  have mk := a.mok st H hR
  have nD : ¬ a.M D := mk.new hD
  have np : ¬ a.M p := fun hc => by rcases mk p hc with ⟨ys, e, _⟩ | ⟨kvs, e⟩ <;> (rw [hx] at e; cases e)
  have lt := szs_len ts
  -- behind the loop
  have after : ∀ (acc : List Int) (st' : S) (v3 v4 : Option V) (H' : Hp), ansl a.o a.n ts 30 st = (minL acc, st') → 0 < acc.length → (∀ x ∈ acc, 0 ≤ x ∧ x ≤ 30) → ButS a.M H H' → a.R st' H' → H' D = some (.lst (acc.map V.int)) →
      (tRet (tCB (rMin K) (tCons (tVar 2) tNil))) { nx := fun _ H' => Q .non H', rt := Q } [some (.ref p), some (.ref f), some (.ref D), v3, v4] H' := by
    intro acc st' v3 v4 H' e hl hb b' R' eD
    refine ⟨_, rfl, D, acc, rfl, SqL.of eD, hl, fun m hm hle => ?_⟩
    have r := q H' b' (by rw [e]; exact R')
    rw [e, minL_is hm hle fun x hx => (hb x hx).2] at r
    exact r
  refine ⟨_, rfl, p, rfl, ⟨_, SqT.of (s1 _ _ hx)⟩, for_tup (K := K) (a := p) (xs := xs) (fun i σ H' => ∃ (acc : List Int) (st' : S) (v3 v4 : Option V), σ = [some (.ref p), some (.ref f), some (.ref D), v3, v4] ∧ ansl a.o a.n ts 30 st = ansl a.o a.n (ts.drop i) (minL acc) st' ∧ acc.length = i ∧ 0 < minL acc ∧ (∀ x ∈ acc, 0 ≤ x ∧ x ≤ 30) ∧ ButS a.M H H' ∧ a.J (csts (ts.drop i)) st' ∧ a.R st' H' ∧ LPre c qn H' ∧ H' D = some (.lst (acc.map V.int)))
    ⟨[], st, none, none, rfl, rfl, rfl, by decide, (fun x hx => by cases hx), ButS.of_same s1, hI, a.same hR s1, s1 _ _ hp, upd_same⟩ (fun i σ H' _ ⟨_, _, _, _, _, _, _, _, _, b', _⟩ => SqT.of (b' _ _ hx np)) ?_ ?_⟩
  · rintro i x σ H1 hi ⟨acc, st', v3, v4, rfl, e, hl, hpos, hb, b1, I1, R1, p1, eD⟩
    obtain ⟨t, ht, tv⟩ := tas.get hi
    have hmem := List.mem_of_getElem? ht
    have ed : ts.drop i = t :: ts.drop (i + 1) := by
      have hlt := (List.getElem?_eq_some_iff.mp ht).1
      have z := (List.getElem?_eq_some_iff.mp ht).2
      rw [List.drop_eq_getElem_cons hlt, z]
    rw [ed, ansl_cons hpos, ← minL_snoc] at e
    rw [csts_drop ht] at I1
    obtain ⟨a1, a2, a3⟩ := ans_ok a.ok t _ st' (wf.mem hmem) (nm.mem hmem) I1
    have mk1 := a.mok st' H1 R1
    refine ⟨_, rfl, _, rfl, x, t, st', rfl, tv.mono (mk.tups b1), wf.mem hmem, nm.mem hmem, Nat.le_trans (dep_mem hmem) dp, Nat.le_trans (Sz_mem hmem) sz, a.ok.le I1 (Nat.le_add_left _ _), R1, p1, fun H2 b2 R2 => ?_⟩
    have eD2 := b2 _ _ eD nD
    have hil := (List.getElem?_eq_some_iff.mp ht).1
    refine ⟨_, rfl, .inl ⟨rfl, _, SqL.of eD2⟩, _, rfl, D, _, _, rfl, rfl, eD2, ?_, ?_⟩
    · rw [List.length_map]; exact Nat.lt_of_lt_of_le (by omega : acc.length < 100001) (by decide)
    have mk2 := a.mok _ H2 R2
    have b3 : ButS a.M H (upd H2 D (.lst (acc.map V.int ++ [.int (ans a.o a.n t st').1]))) := fun b u hb' hc => by
      rw [upd_ne (ne_of_none hb' hD)]
      exact (b1.trans b2) b u hb' hc
    have R3 : a.R (ans a.o a.n t st').2 (upd H2 D (.lst (acc.map V.int ++ [.int (ans a.o a.n t st').1]))) := a.put R2 hR hD _
    refine ⟨_, rfl, rfl, _, rfl, ?_⟩
    have hb' : ∀ y ∈ acc ++ [(ans a.o a.n t st').1], 0 ≤ y ∧ y ≤ 30 := fun y hy => by
      rcases List.mem_append.mp hy with z | z
      · exact hb y z
      · rw [List.mem_singleton.mp z]; exact ⟨a1, a2⟩
    have eacc : (upd H2 D (.lst (acc.map V.int ++ [.int (ans a.o a.n t st').1]))) D = some (.lst ((acc ++ [(ans a.o a.n t st').1]).map V.int)) := by
      rw [upd_same, List.map_append]
      rfl
    by_cases c0 : (ans a.o a.n t st').1 = 0
    · rw [show decide (V.int (ans a.o a.n t st').1 = V.int 0) = true from decide_eq_true (by rw [c0])]
      refine iteT ?_
      refine after (acc ++ [(ans a.o a.n t st').1]) (ans a.o a.n t st').2 _ _ _ ?_ (by rw [List.length_append, List.length_singleton]; omega) hb' b3 R3 eacc
      have z : minL (acc ++ [(ans a.o a.n t st').1]) = 0 := by rw [minL_snoc, c0]; omega
      rw [e, z, ansl_zero]
    · rw [show decide (V.int (ans a.o a.n t st').1 = V.int 0) = false from decide_eq_false (by intro z; exact c0 (V.int.inj z))]
      refine iteF ⟨acc ++ [(ans a.o a.n t st').1], (ans a.o a.n t st').2, _, _, rfl, e, by rw [List.length_append, List.length_singleton, hl], ?_, hb', b3, a3, R3, ?_, eacc⟩
      · rw [minL_snoc]; omega
      · show _ = _
        rw [upd_ne (ne_of_none hp hD)]
        exact b2 _ _ p1 (mk1.code p1)
  · rintro σ H1 ⟨acc, st', v3, v4, rfl, e, hl, hpos, hb, b1, I1, R1, p1, eD⟩
    rw [tas.length, List.drop_length] at e
    refine after acc st' v3 v4 H1 ?_ (by rw [hl, tas.length]; exact h0) hb b1 R1 eD
    rw [e]
    unfold ansl
    rfl
end
end Aw

namespace Aw
open PySem L2
section
variable {P : Program} {w : World} {K : PySem.W.Frag} {mg : Str → Option Value} {base : Heap} {S : Type} {a : AskIs S} {f c : Addr} {qn : Str} {kc : Nat} (CL : Clo P w K mg base CX0 kc f (LPre c qn) a.sp)
include CL
theorem ok_ansOf0 {k : Nat} (hk : kc ≤ k) {e : Addr} {ed : FuncData} (F : Fun K "answer_of" "answer_of" s_answer_of e ed) : FnOk P w K mg base CX0 (k + 1) e ed ["recipe", "ask"] (spAns a f c qn 0) := by
  refine F.ok sc_answer_of (fun vs H Q E h => ?_) (fun cdv A outer s H vs Q E hr h => ?_)
  · obtain ⟨v, t, st, rfl, _⟩ := h
    rfl
  obtain ⟨v, t, st, rfl, tv, wf, nm, dp, sz, hI, hR, hp, q⟩ := h
  have nd := sc_answer_of.nd
  refine ⟨_, pss_cons (ps_set (i := 2) nd rfl (.inl rfl) (pe_ix ix_tup (pv 0) pe_int (fun _ _ => rfl)))
    (pss_cons (ps_if (pt_cmpR op_eq (pv 2) pe_str (nomark _)) (pss_one (ps_ret (pe_ix ix_tup (pv 0) pe_int (fun _ _ => rfl)))) pss_nil)
    (pss_cons (ps_if (pt_cmpR op_eq (pv 2) pe_str (nomark _)) (pss_one (ps_ret (pe_clo (i := 1) CL (hr.mono hk) pass0 rfl (.inr (.inl rfl)) (pa_cons (pe_ix ix_tup (pv 0) pe_int (fun _ _ => rfl)) pa_nil)))) pss_nil)
    (pss_cons ps_never (pss_cons ps_never (pss_cons ps_never (pss_cons ps_never (pss_one ps_never))))))), ?_⟩
  cases tv with
  | @num ad k e =>
    unfold ans at q
    exact ⟨_, rfl, ad, _, _, _, rfl, rfl, SqT.of e, rfl, _, rfl, rfl, _, rfl, iteT ⟨_, rfl, ad, _, _, _, rfl, rfl, SqT.of e, rfl, q H (ButS.refl _ _) hR⟩⟩
  | @name ad z e =>
    unfold ans at q
    refine ⟨_, rfl, ad, _, _, _, rfl, rfl, SqT.of e, rfl, _, rfl, rfl, _, rfl, ?_⟩
    refine iteF ⟨_, rfl, rfl, _, rfl, ?_⟩
    exact iteT ⟨rfl, hp, _, rfl, ad, _, _, _, rfl, rfl, SqT.of e, rfl, hp, z, st, rfl, nm, hI, hR, fun H1 b1 R1 => q H1 b1 R1⟩
  | gate e _ => exact absurd dp (by unfold dep; omega)
  | join e _ _ => exact absurd dp (by unfold dep; omega)
theorem ok_ansOfS {m k : Nat} (hk : kc ≤ k) (T : TxtA mg) {e gg gl : Addr} {ed dg dl : FuncData} (F : Fun K "answer_of" "answer_of" s_answer_of e ed) (G : FnOk P w K mg base CX0 k e ed ["recipe", "ask"] (spAns a f c qn m)) (b : Binds K ed ["recipe", "ask"] []) (mA : mg "answer_of" = some (.ref e))
    (GG : FnOk P w K mg base CX0 (k + 1) gg dg ["recipe", "ask"] (spGateA a f c qn m)) (bG : Binds K dg ["recipe", "ask"] []) (kG : PySem.W.keepIn K (.ref gg) = true) (mG : mg "gate_answer" = some (.ref gg))
    (GL : FnOk P w K mg base CX0 (k + 1) gl dl ["pieces", "ask"] (spLeastA a f c qn m)) (bL : Binds K dl ["pieces", "ask"] []) (kL : PySem.W.keepIn K (.ref gl) = true) (mL : mg "least_answer" = some (.ref gl)) :
    FnOk P w K mg base CX0 (k + 2) e ed ["recipe", "ask"] (spAns a f c qn (m + 1)) := by
  refine F.ok sc_answer_of (fun vs H Q E h => ?_) (fun cdv A outer s H vs Q E hr h => ?_)
  · obtain ⟨v, t, st, rfl, _⟩ := h
    rfl
  obtain ⟨v, t, st, rfl, tv, wf, nm, dp, sz, hI, hR, hp, q⟩ := h
  have nd := sc_answer_of.nd
  have hr1 : Room k _ := hr.mono (by omega)
  refine ⟨_, pss_cons (ps_set (i := 2) nd rfl (.inl rfl) (pe_ix ix_tup (pv 0) pe_int (fun _ _ => rfl)))
    (pss_cons (ps_if (pt_cmpR op_eq (pv 2) pe_str (nomark _)) (pss_one (ps_ret (pe_ix ix_tup (pv 0) pe_int (fun _ _ => rfl)))) pss_nil)
    (pss_cons (ps_if (pt_cmpR op_eq (pv 2) pe_str (nomark _)) (pss_one (ps_ret (pe_clo (i := 1) CL (hr.mono (by omega)) pass0 rfl (.inr (.inl rfl)) (pa_cons (pe_ix ix_tup (pv 0) pe_int (fun _ _ => rfl)) pa_nil)))) pss_nil)
    (pss_cons (ps_if (pt_cmpR op_eq (pv 2) pe_str (nomark _)) (pss_one (ps_ret (pe_call GG hr rfl mG kG bG .nil pass0 (pa_cons (pv 0) (pa_cons (pv 1) pa_nil))))) pss_nil)
    (pss_cons (ps_if (pt_cmpR op_eq (pv 2) pe_str (nomark _)) (pss_one (ps_ret (pe_call GL hr rfl mL kL bL .nil pass0 (pa_cons (pe_ix ix_tup (pv 0) pe_int (fun _ _ => rfl)) (pa_cons (pv 1) pa_nil))))) pss_nil)
    (pss_cons (ps_setLc (i := 3) (own := [("piece", 4)]) (g := gName 4) rfl nd rfl rfl (sw_true rfl rfl rfl (by decide +kernel)) (pi_tup (pe_ix ix_tup (pv 0) pe_int (fun _ _ => rfl))) (blkOk_by (N := ["recipe", "ask", "kind", "answers", "piece"]) (sc := defScope s_answer_of) (by decide +kernel))
      (fun _ _ _ _ _ => pg_name (i := 4) nd rfl (.inl rfl)) (fun _ _ _ _ _ => pts_nil) (fun _ _ _ _ _ => pe_call G hr1 rfl mA F.kp b .nil pass0 (pa_cons (pv 4) (pa_cons (pv 1) pa_nil))))
    (pss_cons (ps_if (pt_cmpR op_eq (pv 2) pe_str (nomark _)) (pss_one (ps_ret (pe_callB (call_min2 rfl) (by rfl) T.min (by decide +kernel) (pa_cons (pe_gI T.gGr) (pa_cons (pe_callB (cr_sum rfl) (by rfl) T.sum (by decide +kernel) (pa_cons (pv 3) pa_nil)) pa_nil))))) pss_nil)
    (pss_one (ps_ret (pe_callB (cr_max rfl) (by rfl) T.max (by decide +kernel) (pa_cons (pv 3) pa_nil)))))))))), ?_⟩
  cases tv with
  | @num ad k e =>
    unfold ans at q
    exact ⟨_, rfl, ad, _, _, _, rfl, rfl, SqT.of e, rfl, _, rfl, rfl, _, rfl, iteT ⟨_, rfl, ad, _, _, _, rfl, rfl, SqT.of e, rfl, q H (ButS.refl _ _) hR⟩⟩
  | @name ad z e =>
    unfold ans at q
    refine ⟨_, rfl, ad, _, _, _, rfl, rfl, SqT.of e, rfl, _, rfl, rfl, _, rfl, ?_⟩
    refine iteF ⟨_, rfl, rfl, _, rfl, ?_⟩
    exact iteT ⟨rfl, hp, _, rfl, ad, _, _, _, rfl, rfl, SqT.of e, rfl, hp, z, st, rfl, nm, hI, hR, fun H1 b1 R1 => q H1 b1 R1⟩
  | @gate ad z bd v1 t1 e tv1 =>
    refine ⟨_, rfl, ad, _, _, _, rfl, rfl, SqT.of e, rfl, _, rfl, rfl, _, rfl, ?_⟩
    refine iteF ⟨_, rfl, rfl, _, rfl, ?_⟩
    refine iteF ⟨_, rfl, rfl, _, rfl, ?_⟩
    refine iteT ⟨_, rfl, _, rfl, .ref ad, z, bd, t1, st, rfl, .gate e tv1, wf, nm, (by unfold dep at dp; omega), (by have z1 : z.length + 8 + Sz t1 ≤ 100000 := sz; omega), hI, hR, hp, q⟩
  | @join ad p kd vs ts e e2 tvs =>
    have szs : 2 + Szs ts ≤ 100000 := sz
    have dps : deps ts ≤ m := by unfold dep at dp; omega
    have mk := a.mok st H hR
    have np : ¬ a.M p := fun hc => by rcases mk p hc with ⟨ys, z, _⟩ | ⟨kvs, z⟩ <;> (rw [e2] at z; cases z)
    refine ⟨_, rfl, ad, _, _, _, rfl, rfl, SqT.of e, rfl, _, rfl, rfl, _, rfl, ?_⟩
    rw [kd_num]
    refine iteF ⟨_, rfl, rfl, _, rfl, ?_⟩
    rw [kd_name]
    refine iteF ⟨_, rfl, rfl, _, rfl, ?_⟩
    rw [kd_gate]
    refine iteF ⟨_, rfl, rfl, _, rfl, ?_⟩
    by_cases hl : kd = .least
    · subst hl
      refine iteT ⟨_, rfl, ad, _, _, _, rfl, rfl, SqT.of e, rfl, _, rfl, p, vs, ts, st, rfl, e2, tvs, wf.1, wf.2, nm, dps, by omega, hI, hR, hp, fun H1 b1 R1 => ?_⟩
      unfold ans at q
      exact q H1 b1 R1
    · rw [show decide (V.str kd.nm = V.str "least") = false by cases kd <;> first | exact absurd rfl hl | decide +kernel]
      refine iteF ⟨_, rfl, ad, _, _, _, rfl, rfl, SqT.of e, rfl, p, rfl, ⟨_, SqT.of e2⟩, fun D hD => ?_⟩
      have s1 := same_new hD (.lst [])
      have nD : ¬ a.M D := mk.new hD
      have lt := szs_len ts
      refine walk_gen (walk_tup (K := K) (a := p) (xs := vs)) (fun i H' => H' D = some (.lst ((anss a.o a.n (ts.take i) st).1.map V.int)) ∧ a.R (anss a.o a.n (ts.take i) st).2 H' ∧ a.J (csts (ts.drop i)) (anss a.o a.n (ts.take i) st).2 ∧ ButS a.M H H' ∧ LPre c qn H')
        ⟨upd_same, a.same hR s1, hI, ButS.of_same s1, s1 _ _ hp⟩ (fun i H' _ h => SqT.of (h.2.2.2.1 _ _ e2 np)) ?_ ?_
      · rintro i x H1 H2 hi ⟨eD, R1, I1, b1, p1⟩ ⟨rfl, hx⟩
        obtain ⟨t5, ht5, tv5⟩ := tvs.get hx
        have m5 := List.mem_of_getElem? ht5
        have hil := (List.getElem?_eq_some_iff.mp ht5).1
        rw [csts_drop ht5] at I1
        obtain ⟨a1, a2, a3⟩ := ans_ok a.ok t5 _ _ (wf.2.mem m5) (nm.mem m5) I1
        have mk1 := a.mok _ _ R1
        refine ⟨rfl, ?_⟩
        refine ⟨_, rfl, _, rfl, x, t5, _, rfl, tv5.mono (mk.tups b1), wf.2.mem m5, nm.mem m5, Nat.le_trans (dep_mem m5) dps, Nat.le_trans (Sz_mem m5) (by omega), a.ok.le I1 (Nat.le_add_left _ _), R1, p1, fun H3 b3 R3 => ?_⟩
        have b13 := b1.trans b3
        refine ⟨_, b3 _ _ eD nD, ?_, ?_, ?_, ?_, fun b' u hb' hc => ?_, ?_⟩
        · rw [List.length_map, anss_len, List.length_take]; exact Nat.lt_of_lt_of_le (by omega : min i ts.length < 100001) (by decide)
        · rw [upd_same, take_more ht5, anss_snoc, List.map_append]
          rfl
        · rw [take_more ht5, anss_snoc]
          exact a.put R3 hR hD _
        · rw [take_more ht5, anss_snoc]
          exact a3
        · rw [upd_ne (ne_of_none hb' hD)]
          exact b13 b' u hb' hc
        · show _ = _
          rw [upd_ne (ne_of_none hp hD)]
          exact b3 _ _ p1 (mk1.code p1)
      · rintro H1 ⟨eD, R1, I1, b1, p1⟩
        rw [tvs.length, List.take_length] at eD R1
        have al := anss_len a.o a.n ts st
        cases kd with
        | least => exact absurd rfl hl
        | sum =>
          unfold ans at q
          refine ⟨_, rfl, rfl, _, rfl, iteT ?_⟩
          refine ⟨_, rfl, D, _, rfl, SqL.of eD, _, _, rfl, ?_⟩
          have r := q H1 b1 R1
          rw [show (min 30 (anss a.o a.n ts st).1.sum) = (if (anss a.o a.n ts st).1.sum < 30 then (anss a.o a.n ts st).1.sum else 30) by split <;> omega] at r
          exact r
        | most =>
          unfold ans at q
          refine ⟨_, rfl, rfl, _, rfl, iteF ?_⟩
          refine ⟨_, rfl, D, _, rfl, SqL.of eD, (by rw [al]; exact wf.1), fun mx hm hle => ?_⟩
          have r := q H1 b1 R1
          rw [← maxL_is hm hle] at r
          exact r
end
end Aw

namespace Aw
open PySem L2
section
variable {S : Type} (a : AskIs S) (f c : Addr) (qn : Str)
def spLAns (m : Nat) : Sp := fun vs H Q _ => ∃ (v : V) (t : T) (st : S), vs = [v, .ref f] ∧ LA H v t ∧ WF t ∧ Nm a.D t ∧ dep t ≤ m ∧ Sz t ≤ 100000 ∧ a.J (cst t) st ∧ a.R st H ∧ LPre c qn H ∧
  ∀ H', ButS a.M H H' → a.R (ans a.o a.n t st).2 H' → Q (.int (ans a.o a.n t st).1) H'
end
section
variable {P : Program} {w : World} {K : PySem.W.Frag} {mg : Str → Option Value} {base : Heap} {S : Type} {a : AskIs S} {f c : Addr} {qn : Str} {kc : Nat} (CL : Clo P w K mg base CX0 kc f (LPre c qn) a.sp)
include CL
theorem ok_lans0 {k : Nat} (hk : kc ≤ k) {e : Addr} {ed : FuncData} (F : Fun K "_law_answer" "_law_answer" s_law_answer e ed) : FnOk P w K mg base CX0 (k + 1) e ed ["_law_tree_here", "_law_ask"] (spLAns a f c qn 0) := by
  refine F.ok sc_law_answer (fun vs H Q E h => ?_) (fun cdv A outer s H vs Q E hr h => ?_)
  · obtain ⟨v, t, st, rfl, _⟩ := h
    rfl
  obtain ⟨v, t, st, rfl, tv, wf, nm, dp, sz, hI, hR, hp, q⟩ := h
  refine ⟨_, pss_cons (ps_if (pt_cmpR op_eq (pe_ix ix_tup (pv 0) pe_int (fun _ _ => rfl)) pe_str (nomark _)) (pss_one (ps_ret (pe_ix ix_tup (pv 0) pe_int (fun _ _ => rfl)))) pss_nil)
    (pss_cons (ps_if (pt_cmpR op_eq (pe_ix ix_tup (pv 0) pe_int (fun _ _ => rfl)) pe_str (nomark _)) (pss_one (ps_ret (pe_clo (i := 1) CL (hr.mono hk) pass0 rfl (.inr (.inl rfl)) (pa_cons (pe_ix ix_tup (pv 0) pe_int (fun _ _ => rfl)) pa_nil)))) pss_nil)
    (pss_cons ps_never (pss_cons ps_never (pss_cons ps_never (pss_cons ps_never (pss_one ps_never)))))), ?_⟩
  cases tv with
  | @num ad k e =>
    unfold ans at q
    exact ⟨_, rfl, ad, _, _, _, rfl, rfl, SqT.of e, rfl, rfl, _, rfl, iteT ⟨_, rfl, ad, _, _, _, rfl, rfl, SqT.of e, rfl, q H (ButS.refl _ _) hR⟩⟩
  | @name ad z e =>
    unfold ans at q
    refine ⟨_, rfl, ad, _, _, _, rfl, rfl, SqT.of e, rfl, rfl, _, rfl, ?_⟩
    refine iteF ⟨_, rfl, ad, _, _, _, rfl, rfl, SqT.of e, rfl, rfl, _, rfl, ?_⟩
    exact iteT ⟨rfl, hp, _, rfl, ad, _, _, _, rfl, rfl, SqT.of e, rfl, hp, z, st, rfl, nm, hI, hR, fun H1 b1 R1 => q H1 b1 R1⟩
  | gate e _ => exact absurd dp (by unfold dep; omega)
  | join e _ _ _ => exact absurd dp (by unfold dep; omega)
theorem ok_lansS {m k : Nat} (hk : kc ≤ k) (T : TxtA mg) {e : Addr} {ed : FuncData} (F : Fun K "_law_answer" "_law_answer" s_law_answer e ed) (G : FnOk P w K mg base CX0 k e ed ["_law_tree_here", "_law_ask"] (spLAns a f c qn m)) (b : Binds K ed ["_law_tree_here", "_law_ask"] []) (mA : mg "_law_answer" = some (.ref e)) :
    FnOk P w K mg base CX0 (k + 1) e ed ["_law_tree_here", "_law_ask"] (spLAns a f c qn (m + 1)) := by
  refine F.ok sc_law_answer (fun vs H Q E h => ?_) (fun cdv A outer s H vs Q E hr h => ?_)
  · obtain ⟨v, t, st, rfl, _⟩ := h
    rfl
  obtain ⟨v, t, st, rfl, tv, wf, nm, dp, sz, hI, hR, hp, q⟩ := h
  have nd := sc_law_answer.nd
  refine ⟨_, pss_cons (ps_if (pt_cmpR op_eq (pe_ix ix_tup (pv 0) pe_int (fun _ _ => rfl)) pe_str (nomark _)) (pss_one (ps_ret (pe_ix ix_tup (pv 0) pe_int (fun _ _ => rfl)))) pss_nil)
    (pss_cons (ps_if (pt_cmpR op_eq (pe_ix ix_tup (pv 0) pe_int (fun _ _ => rfl)) pe_str (nomark _)) (pss_one (ps_ret (pe_clo (i := 1) CL (hr.mono hk) pass0 rfl (.inr (.inl rfl)) (pa_cons (pe_ix ix_tup (pv 0) pe_int (fun _ _ => rfl)) pa_nil)))) pss_nil)
    (pss_cons (ps_if (pt_cmpR op_eq (pe_ix ix_tup (pv 0) pe_int (fun _ _ => rfl)) pe_str (nomark _))
      (pss_cons (ps_if (pt_cmpR op_lt (pe_clo (i := 1) CL (hr.mono hk) pass0 rfl (.inr (.inl rfl)) (pa_cons (pe_ix ix_tup (pv 0) pe_int (fun _ _ => rfl)) pa_nil)) (pe_ix ix_tup (pv 0) pe_int (fun _ _ => rfl)) (nomark _)) (pss_one (ps_ret pe_int)) pss_nil)
      (pss_one (ps_ret (pe_call G hr rfl mA F.kp b .nil pass0 (pa_cons (pe_ix ix_tup (pv 0) pe_int (fun _ _ => rfl)) (pa_cons (pv 1) pa_nil)))))) pss_nil)
    (pss_cons (ps_if (pt_cmpR op_eq (pe_ix ix_tup (pv 0) pe_int (fun _ _ => rfl)) pe_str (nomark _))
      (pss_cons (ps_set (i := 2) nd rfl (.inl rfl) pe_int)
      (pss_cons (ps_for PassesOwn.never rfl (pi_list (pe_ix ix_tup (pv 0) pe_int (fun _ _ => rfl))) (pg_name (i := 3) nd rfl (.inl rfl))
        (pss_one (ps_if (pt_cmpR op_gt (pv 2) pe_int (nomark _)) (pss_one (ps_set (i := 2) nd rfl (.inl rfl) (pe_callB (call_min2 rfl) (by rfl) T.min (by decide +kernel) (pa_cons (pv 2) (pa_cons (pe_call G hr rfl mA F.kp b .nil pass0 (pa_cons (pv 3) (pa_cons (pv 1) pa_nil))) pa_nil))))) pss_nil)))
      (pss_one (ps_ret (pv 2))))) pss_nil)
    (pss_cons (ps_setLc (i := 2) (own := [("_law_piece", 3)]) (g := gName 3) rfl nd rfl rfl (sw_true rfl rfl rfl (by decide +kernel)) (pi_list (pe_ix ix_tup (pv 0) pe_int (fun _ _ => rfl))) (blkOk_by (N := ["_law_tree_here", "_law_ask", "_law_found", "_law_piece"]) (sc := defScope s_law_answer) (by decide +kernel))
      (fun _ _ _ _ _ => pg_name (i := 3) nd rfl (.inl rfl)) (fun _ _ _ _ _ => pts_nil) (fun _ _ _ _ _ => pe_call G hr rfl mA F.kp b .nil pass0 (pa_cons (pv 3) (pa_cons (pv 1) pa_nil))))
    (pss_cons (ps_if (pt_cmpR op_eq (pe_ix ix_tup (pv 0) pe_int (fun _ _ => rfl)) pe_str (nomark _)) (pss_one (ps_ret (pe_callB (call_min2 rfl) (by rfl) T.min (by decide +kernel) (pa_cons pe_int (pa_cons (pe_callB (cr_sum rfl) (by rfl) T.sum (by decide +kernel) (pa_cons (pv 2) pa_nil)) pa_nil))))) pss_nil)
    (pss_one (ps_ret (pe_callB (cr_max rfl) (by rfl) T.max (by decide +kernel) (pa_cons (pv 2) pa_nil))))))))), ?_⟩
  cases tv with
  | @num ad k e =>
    unfold ans at q
    exact ⟨_, rfl, ad, _, _, _, rfl, rfl, SqT.of e, rfl, rfl, _, rfl, iteT ⟨_, rfl, ad, _, _, _, rfl, rfl, SqT.of e, rfl, q H (ButS.refl _ _) hR⟩⟩
  | @name ad z e =>
    unfold ans at q
    refine ⟨_, rfl, ad, _, _, _, rfl, rfl, SqT.of e, rfl, rfl, _, rfl, ?_⟩
    refine iteF ⟨_, rfl, ad, _, _, _, rfl, rfl, SqT.of e, rfl, rfl, _, rfl, ?_⟩
    exact iteT ⟨rfl, hp, _, rfl, ad, _, _, _, rfl, rfl, SqT.of e, rfl, hp, z, st, rfl, nm, hI, hR, fun H1 b1 R1 => q H1 b1 R1⟩
  | @gate ad z bd v1 t1 e tv1 =>
    have mk := a.mok st H hR
    have na : ¬ a.M ad := fun hc => by rcases mk ad hc with ⟨ys, x, _⟩ | ⟨kvs, x⟩ <;> (rw [e] at x; cases x)
    refine ⟨_, rfl, ad, _, _, _, rfl, rfl, SqT.of e, rfl, rfl, _, rfl, ?_⟩
    refine iteF ⟨_, rfl, ad, _, _, _, rfl, rfl, SqT.of e, rfl, rfl, _, rfl, ?_⟩
    refine iteF ⟨_, rfl, ad, _, _, _, rfl, rfl, SqT.of e, rfl, rfl, _, rfl, ?_⟩
    refine iteT ⟨rfl, hp, _, rfl, ad, _, _, _, rfl, rfl, SqT.of e, rfl, hp, z, st, rfl, nm.1, a.ok.le (k := 1) hI (by show 1 ≤ cst t1 + 1; omega), hR, fun H1 b1 R1 => ?_⟩
    have e1 := b1 _ _ e na
    refine ⟨_, rfl, ad, _, _, _, rfl, rfl, SqT.of e1, rfl, _, _, rfl, rfl, _, rfl, ?_⟩
    rw [ans_gate] at q
    by_cases c1 : a.o st z < bd
    · rw [if_pos c1] at q
      rw [decide_eq_true c1]
      exact iteT (q H1 b1 R1)
    · rw [if_neg c1] at q
      rw [decide_eq_false c1]
      refine iteF ⟨_, rfl, ad, _, _, _, rfl, rfl, SqT.of e1, rfl, _, rfl, v1, t1, a.n st z, rfl, tv1.mono (mk.keep b1), wf.2, nm.2, (by unfold dep at dp; omega), (by have z1 : z.length + 8 + Sz t1 ≤ 100000 := sz; omega), a.ok.st _ st z hI nm.1, R1, b1 _ _ hp (mk.code hp), fun H2 b2 R2 => ?_⟩
      exact q H2 (b1.trans b2) R2
  | @join ad p kd vs ts e e2 h0 tvs =>
    have szs : 2 + Szs ts ≤ 100000 := sz
    have dps : deps ts ≤ m := by unfold dep at dp; omega
    have mk := a.mok st H hR
    have na : ¬ a.M ad := fun hc => by rcases mk ad hc with ⟨ys, x, _⟩ | ⟨kvs, x⟩ <;> (rw [e] at x; cases x)
    have kp : ∀ {H'}, ButS a.M H H' → H' p = some (.lst vs) := fun {H'} b' => by
      obtain ⟨r0, r, er⟩ := tvs.headRef h0
      subst er
      exact (mk.keep b').2 _ _ _ e2
    refine ⟨_, rfl, ad, _, _, _, rfl, rfl, SqT.of e, rfl, rfl, _, rfl, ?_⟩
    rw [kd_num]
    refine iteF ⟨_, rfl, ad, _, _, _, rfl, rfl, SqT.of e, rfl, rfl, _, rfl, ?_⟩
    rw [kd_name]
    refine iteF ⟨_, rfl, ad, _, _, _, rfl, rfl, SqT.of e, rfl, rfl, _, rfl, ?_⟩
    rw [kd_gate]
    refine iteF ⟨_, rfl, ad, _, _, _, rfl, rfl, SqT.of e, rfl, rfl, _, rfl, ?_⟩
    have lt := szs_len ts
    by_cases hl : kd = .least
    · subst hl
      unfold ans at q
      refine iteT ⟨_, rfl, ad, _, _, _, rfl, rfl, SqT.of e, rfl, p, rfl, ⟨_, SqL.of e2⟩, for_list (K := K) (a := p) (xs := vs) (fun i σ H' => ∃ (cur : Int) (st' : S) (v3 : Option V), σ = [some (.ref ad), some (.ref f), some (.int cur), v3] ∧ ansl a.o a.n ts 30 st = ansl a.o a.n (ts.drop i) cur st' ∧ 0 ≤ cur ∧ cur ≤ 30 ∧ ButS a.M H H' ∧ a.J (csts (ts.drop i)) st' ∧ a.R st' H' ∧ LPre c qn H')
        ⟨30, st, none, rfl, rfl, by decide, by decide, ButS.refl _ _, hI, hR, hp⟩ (fun i σ H' _ ⟨_, _, _, _, _, _, _, b', _⟩ => SqL.of (kp b')) ?_ ?_⟩
      · rintro i x σ H1 hi ⟨cur, st', v3, rfl, ee, c0, c30, b1, I1, R1, p1⟩
        obtain ⟨t, ht, tv⟩ := tvs.get hi
        have hmem := List.mem_of_getElem? ht
        have ed : ts.drop i = t :: ts.drop (i + 1) := by
          have hlt := (List.getElem?_eq_some_iff.mp ht).1
          have z := (List.getElem?_eq_some_iff.mp ht).2
          rw [List.drop_eq_getElem_cons hlt, z]
        rw [ed] at ee
        refine ⟨_, rfl, _, _, rfl, rfl, _, rfl, ?_⟩
        by_cases cp : 0 < cur
        · rw [decide_eq_true cp]
          rw [ansl_cons cp] at ee
          rw [csts_drop ht] at I1
          obtain ⟨a1, a2, a3⟩ := ans_ok a.ok t _ st' (wf.2.mem hmem) (nm.mem hmem) I1
          have mk1 := a.mok st' H1 R1
          refine iteT ⟨_, rfl, _, rfl, _, rfl, x, t, st', rfl, tv.mono (mk.keep b1), wf.2.mem hmem, nm.mem hmem, Nat.le_trans (dep_mem hmem) dps, Nat.le_trans (Sz_mem hmem) (by omega), a.ok.le I1 (Nat.le_add_left _ _), R1, p1, fun H2 b2 R2 => ?_⟩
          refine ⟨_, _, rfl, _, _, _, rfl, ?_, ?_, ?_, b1.trans b2, a3, R2, b2 _ _ p1 (mk1.code p1)⟩
          · rw [show (if (ans a.o a.n t st').1 < cur then (ans a.o a.n t st').1 else cur) = min cur (ans a.o a.n t st').1 by split <;> omega]
            exact ee
          · split <;> omega
          · split <;> omega
        · rw [decide_eq_false cp]
          rw [csts_drop ht] at I1
          refine iteF ⟨cur, st', _, rfl, ?_, c0, c30, b1, a.ok.add _ I1, R1, p1⟩
          have z : cur = 0 := by omega
          rw [ee, z, ansl_zero, ansl_zero]
      · rintro σ H1 ⟨cur, st', v3, rfl, ee, c0, c30, b1, I1, R1, p1⟩
        rw [tvs.length, List.drop_length] at ee
        have ee2 : ansl a.o a.n ts 30 st = (cur, st') := by
          rw [ee]
          unfold ansl
          rfl
        have r := q H1 b1 (by rw [ee2]; exact R1)
        rw [ee2] at r
        exact ⟨_, rfl, r⟩
    · rw [show decide (V.str kd.nm = V.str "least") = false by cases kd <;> first | exact absurd rfl hl | decide +kernel]
      refine iteF ⟨_, rfl, ad, _, _, _, rfl, rfl, SqT.of e, rfl, p, rfl, ⟨_, SqL.of e2⟩, fun D hD => ?_⟩
      have s1 := same_new hD (.lst [])
      have nD : ¬ a.M D := mk.new hD
      refine walk_gen (walk_list (K := K) (a := p) (xs := vs)) (fun i H' => H' D = some (.lst ((anss a.o a.n (ts.take i) st).1.map V.int)) ∧ a.R (anss a.o a.n (ts.take i) st).2 H' ∧ a.J (csts (ts.drop i)) (anss a.o a.n (ts.take i) st).2 ∧ ButS a.M H H' ∧ LPre c qn H')
        ⟨upd_same, a.same hR s1, hI, ButS.of_same s1, s1 _ _ hp⟩ (fun i H' _ h => SqL.of (kp h.2.2.2.1)) ?_ ?_
      · rintro i x H1 H2 hi ⟨eD, R1, I1, b1, p1⟩ ⟨rfl, hx⟩
        obtain ⟨t5, ht5, tv5⟩ := tvs.get hx
        have m5 := List.mem_of_getElem? ht5
        rw [csts_drop ht5] at I1
        obtain ⟨a1, a2, a3⟩ := ans_ok a.ok t5 _ _ (wf.2.mem m5) (nm.mem m5) I1
        have mk1 := a.mok _ _ R1
        refine ⟨rfl, ?_⟩
        refine ⟨_, rfl, _, rfl, x, t5, _, rfl, tv5.mono (mk.keep b1), wf.2.mem m5, nm.mem m5, Nat.le_trans (dep_mem m5) dps, Nat.le_trans (Sz_mem m5) (by omega), a.ok.le I1 (Nat.le_add_left _ _), R1, p1, fun H3 b3 R3 => ?_⟩
        have b13 := b1.trans b3
        refine ⟨_, b3 _ _ eD nD, ?_, ?_, ?_, ?_, fun b' u hb' hc => ?_, ?_⟩
        · rw [List.length_map, anss_len, List.length_take]; exact Nat.lt_of_lt_of_le (by omega : min i ts.length < 100001) (by decide)
        · rw [upd_same, take_more ht5, anss_snoc, List.map_append]
          rfl
        · rw [take_more ht5, anss_snoc]
          exact a.put R3 hR hD _
        · rw [take_more ht5, anss_snoc]
          exact a3
        · rw [upd_ne (ne_of_none hb' hD)]
          exact b13 b' u hb' hc
        · show _ = _
          rw [upd_ne (ne_of_none hp hD)]
          exact b3 _ _ p1 (mk1.code p1)
      · rintro H1 ⟨eD, R1, I1, b1, p1⟩
        rw [tvs.length, List.take_length] at eD R1
        have al := anss_len a.o a.n ts st
        have e1 := b1 _ _ e na
        cases kd with
        | least => exact absurd rfl hl
        | sum =>
          unfold ans at q
          refine ⟨_, rfl, ad, _, _, _, rfl, rfl, SqT.of e1, rfl, rfl, _, rfl, iteT ?_⟩
          refine ⟨_, rfl, D, _, rfl, SqL.of eD, _, _, rfl, ?_⟩
          have r := q H1 b1 R1
          rw [show (min 30 (anss a.o a.n ts st).1.sum) = (if (anss a.o a.n ts st).1.sum < 30 then (anss a.o a.n ts st).1.sum else 30) by split <;> omega] at r
          exact r
        | most =>
          unfold ans at q
          refine ⟨_, rfl, ad, _, _, _, rfl, rfl, SqT.of e1, rfl, rfl, _, rfl, iteF ?_⟩
          refine ⟨_, rfl, D, _, rfl, SqL.of eD, (by rw [al]; exact wf.1), fun mx hm hle => ?_⟩
          have r := q H1 b1 R1
          rw [← maxL_is hm hle] at r
          exact r
end
end Aw

namespace Aw
open PySem L2
/-! ### the packages: answer_of and the law's own walk, three storeys deep -/
structure AnD (K : PySem.W.Frag) (mg : Str → Option Value) (e gg gl : Addr) (ed dg dl : FuncData) : Prop where
  F : Fun K "answer_of" "answer_of" s_answer_of e ed
  FG : Fun K "gate_answer" "gate_answer" s_gate_answer gg dg
  FL : Fun K "least_answer" "least_answer" s_least_answer gl dl
  b : Binds K ed ["recipe", "ask"] []
  bG : Binds K dg ["recipe", "ask"] []
  bL : Binds K dl ["pieces", "ask"] []
  m : mg "answer_of" = some (.ref e)
  mG : mg "gate_answer" = some (.ref gg)
  mL : mg "least_answer" = some (.ref gl)
structure LnD (K : PySem.W.Frag) (mg : Str → Option Value) (e : Addr) (ed : FuncData) : Prop where
  F : Fun K "_law_answer" "_law_answer" s_law_answer e ed
  b : Binds K ed ["_law_tree_here", "_law_ask"] []
  m : mg "_law_answer" = some (.ref e)
section
variable {P : Program} {w : World} {K : PySem.W.Frag} {mg : Str → Option Value} {base : Heap} {S : Type} {a : AskIs S} {f c : Addr} {qn : Str} {kc : Nat}
theorem ans_all (CL : Clo P w K mg base CX0 kc f (LPre c qn) a.sp) (T : TxtA mg) {e gg gl : Addr} {ed dg dl : FuncData} (D : AnD K mg e gg gl ed dg dl) : ∀ m : Nat, FnOk P w K mg base CX0 (kc + 1 + 2 * m) e ed ["recipe", "ask"] (spAns a f c qn m)
  | 0 => ok_ansOf0 CL (Nat.le_refl kc) D.F
  | m + 1 => by
    have G := ans_all CL T D m
    have hk : kc ≤ kc + 1 + 2 * m := by omega
    exact ok_ansOfS CL hk T D.F G D.b D.m (ok_gateA CL hk D.FG G D.b D.F.kp D.m) D.bG D.FG.kp D.mG (ok_leastA CL T D.FL G D.b D.F.kp D.m) D.bL D.FL.kp D.mL
theorem lans_all (CL : Clo P w K mg base CX0 kc f (LPre c qn) a.sp) (T : TxtA mg) {e : Addr} {ed : FuncData} (D : LnD K mg e ed) : ∀ m : Nat, FnOk P w K mg base CX0 (kc + 1 + m) e ed ["_law_tree_here", "_law_ask"] (spLAns a f c qn m)
  | 0 => ok_lans0 CL (Nat.le_refl kc) D.F
  | m + 1 => by
    have hk : kc ≤ kc + 1 + m := by omega
    exact ok_lansS CL hk T D.F (lans_all CL T D m) D.b D.m
end
/-! ### a promise with a choice -/
theorem FnOk_ex {P : Program} {w : World} {K : PySem.W.Frag} {mg : Str → Option Value} {base : Heap} {CX : CXT} {k : Nat} {f : Addr} {fd : FuncData} {ps : List Str} {ι : Type} {p : ι → Prop} {sp : ι → Sp} (len : ∀ i vs H Q E, sp i vs H Q E → vs.length = ps.length)
    (h : ∀ i, p i → FnOk P w K mg base CX k f fd ps (sp i)) : FnOk P w K mg base CX k f fd ps (fun vs H Q E => ∃ i, p i ∧ sp i vs H Q E) :=
  ⟨fun vs H Q E ⟨i, _, z⟩ => len i vs H Q E z, fun A outer s H args us vs Q E hr e0 hb r ⟨i, hp, z⟩ => (h i hp).run A outer s H args us vs Q E hr e0 hb r z⟩
/-! ### asking a dict -/
def asD (d : Addr) (kvs : List (Key × V)) : AskIs Unit where
  o _ s := match valV kvs (Sum.inr s) with
    | some (.int v) => v
    | _ => 0
  n _ _ := ()
  D s := ∃ v : Int, valV kvs (Sum.inr s) = some (.int v) ∧ 0 ≤ v ∧ v ≤ 30
  J _ _ := True
  R _ H := H d = some (.dK kvs)
  M _ := False
  ok := ⟨fun _ _ s _ ⟨v, e, h0, h1⟩ => by rw [e]; exact h0, fun _ _ s _ ⟨v, e, h0, h1⟩ => by rw [e]; exact h1, fun _ _ _ _ _ => True.intro, fun _ _ _ => True.intro⟩
  mok _ _ _ _ hc := hc.elim
  fp b := b = d
  tr _ H b h e := by subst e; exact ⟨_, h⟩
  up _ H H' h k := (k d rfl).trans h
theorem butF {H H' : Hp} : ButS (fun _ => False) H H' ↔ Same H H' := ⟨fun h b u e => h b u e (fun z => z), fun h b u e _ => h b u e⟩
section
variable {P : Program} {w : World} {K : PySem.W.Frag} {mg : Str → Option Value} {base : Heap} {f : Addr}
theorem clo_dict {M : LF} {xn xa : Str} {p1 p2 p3 : Pos} (hf : base.get? f = some M.obj) {d : Addr} (C : CellsB base M.cl [xn] [some (.ref d)]) (hbody : M.body = .Subscript (.Name xn p1) (.Name xa p2) p3) (S : NdefX.NScope [xa, xn] [xa] [xn] M.scope)
    (hb : ∀ us : List Value, us.length = 1 → bindArgs (PySem.W.kla_fn "<lambda>" M.qual M.params M.body M.scope M.cl M.pm (.ref M.c) M.ctv) ⟨us, []⟩ = pure ([xa].zip us))
    (d1 : (xn == ("__debug__" : Str)) = false) (d2 : (xn == ("__classdict__" : Str)) = false) (d3 : (xa == ("__debug__" : Str)) = false) (d4 : (xa == ("__classdict__" : Str)) = false) (kvs : List (Key × V)) :
    Clo P w K mg base CX0 1 f (LPre M.c M.qual) (asD d kvs).sp := by
  refine clo_lam (k := 0) (ps := [xa]) hf C S hb (fun vs H Q E h => ?_) (fun A outer s H vs Q E hr hp h => ?_)
  · obtain ⟨s, st, rfl, _⟩ := h
    rfl
  · obtain ⟨s, st, rfl, ⟨v, ev, v0, v1⟩, _, hR, q⟩ := h
    rw [hbody]
    refine ⟨_, pe_dget (hu_of hr) (pv 1 rfl (.inr (.inr (S.frk xn List.mem_cons_self))) d1 d2) (pv 0 rfl (.inl (S.par xa List.mem_cons_self)) d3 d4) (fun _ _ => rfl), ?_⟩
    refine ⟨_, rfl, _, rfl, d, .int v, rfl, ?_, ?_⟩
    · rw [← ev]
      exact DGet.k (k := Sum.inr s) hR
    · have r := q H (ButS.refl _ _) hR
      have e : (asD d kvs).o st s = v := by
        show (match valV kvs (Sum.inr s) with | some (.int v) => v | _ => 0) = v
        rw [ev]
      rw [e] at r
      exact r
end
/-! ### the whole-number check -/
def spWhole : Sp := fun vs H Q _ => ∃ i : Int, vs = [.int i] ∧ Q (.bl true) H
theorem ok_whole {P : Program} {w : World} {K : PySem.W.Frag} {mg : Str → Option Value} {base : Heap} {f : Addr} {fd : FuncData} (F : Fun K "_law_whole" "_law_whole" s_law_whole f fd) (z1 : mg "isinstance" = none) (z2 : mg "int" = none) (z3 : mg "bool" = none) : FnOk P w K mg base CX0 1 f fd ["_law_found"] spWhole := by
  refine F.ok sc_law_whole (fun vs H Q E h => ?_) (fun cdv A outer s H vs Q E hr h => ?_)
  · obtain ⟨i, rfl, _⟩ := h
    rfl
  obtain ⟨i, rfl, q⟩ := h
  refine ⟨_, pss_one (ps_ret (pe_and (pe_callB call_isi (by rfl) z1 (by decide +kernel) (pa_cons (pv 0) (pa_cons (pe_bltn (v := .ty "int") (by rfl) z2 (by decide +kernel) rfl) pa_nil)))
    (pe_one (pe_not (pe_callB call_isi (by rfl) z1 (by decide +kernel) (pa_cons (pv 0) (pa_cons (pe_bltn (v := .ty "bool") (by rfl) z3 (by decide +kernel) rfl) pa_nil))))))), ?_⟩
  refine ⟨_, rfl, _, _, _, _, true, rfl, .ty _, .base (.int _), kit_ty (by decide +kernel), _, rfl, ?_⟩
  rw [if_pos rfl]
  exact ⟨_, rfl, _, _, _, _, false, rfl, .ty _, .base (.int _), kit_ty (by decide +kernel), _, rfl, q⟩
end Aw

namespace Aw
open PySem L2
/-! ### k02: a row of three numbers for each name, the asked ones written down -/
def cntS (st : List Str) (s : Str) : Nat := (st.filter fun x => decide (V.str x = V.str s)).length
def pick (x : Int × Int × Int) (m : Nat) : Int := if m = 0 then x.1 else if m = 1 then x.2.1 else x.2.2
def rowL (x : Int × Int × Int) : List V := [.int x.1, .int x.2.1, .int x.2.2]
def spGiven : Sp := fun vs H Q _ => ∃ (d L r : Addr) (s : Str) (kvs : List (Key × V)) (st : List Str) (x : Int × Int × Int), vs = [.ref d, .ref L, .str s] ∧ H d = some (.dK kvs) ∧ H L = some (.lst (st.map V.str)) ∧ st.length < 1000 ∧ valV kvs (Sum.inr s) = some (.ref r) ∧ H r = some (.lst (rowL x)) ∧
  ∀ H', But L H H' → H' L = some (.lst ((st ++ [s]).map V.str)) → Q (.int (pick x (cntS st s % 3))) H'
theorem pick_at (x : Int × Int × Int) (n : Nat) : atI (rowL x) ((n : Int) % 3) = some (.int (pick x (n % 3))) := by
  have h : ((n : Int) % 3) = ((n % 3 : Nat) : Int) := rfl
  rw [h]
  have hb : n % 3 < 3 := Nat.mod_lt _ (by decide)
  generalize n % 3 = m at hb
  match m, hb with
  | 0, _ => exact atI_nat rfl
  | 1, _ => exact atI_nat rfl
  | 2, _ => exact atI_nat rfl
theorem ok_given {P : Program} {w : World} {K : PySem.W.Frag} {mg : Str → Option Value} {base : Heap} {f : Addr} {fd : FuncData} (F : Fun K "_law_given" "_law_given" s_law_given f fd) (zl : mg "len" = none) : FnOk P w K mg base CX0 1 f fd ["_law_rows", "_law_asked", "_law_name"] spGiven := by
  refine F.ok sc_law_given (fun vs H Q E h => ?_) (fun cdv A outer s H vs Q E hr h => ?_)
  · obtain ⟨d, L, r, s, kvs, st, x, rfl, _⟩ := h
    rfl
  obtain ⟨d, L, r, s, kvs, st, x, rfl, hd, hL, hl, hv, hx, q⟩ := h
  have nd := sc_law_given.nd
  refine ⟨_, pss_cons (ps_set (i := 3) nd rfl (.inl rfl) (pe_callB call_len_seq (by rfl) zl PySem.boot_len (pa_cons (pe_lc (own := [("_law_one", 4)]) (g := gName 4) rfl nd (pi_list (pv 1))
      (blkOk_by (N := ["_law_rows", "_law_asked", "_law_name", "_law_many", "_law_one"]) (sc := defScope s_law_given) (by decide +kernel))
      (fun _ _ _ _ _ => pg_name (i := 4) nd rfl (.inl rfl)) (fun _ _ _ _ _ => pts_one (pt_cmpR op_eq (pv 4) (pv 2) (nomark _))) (fun _ _ _ _ _ => pv 4)) pa_nil)))
    (pss_cons (ps_expr (pe_bm PySem.F.plainAttrs_list PySem.F.slot_list_append PySem.F.type_list_append mt_append (pv 1) (pa_cons (pv 2) pa_nil)))
    (pss_one (ps_ret (pe_ix ix_list (pe_dget (hu_of hr) (pv 0) (pv 2) (fun _ _ => rfl)) (pe_op op_mod (pv 3) pe_int) (fun _ _ => rfl))))), ?_⟩
  have nLr : L ≠ r := fun z => by
    rw [z, hx] at hL
    cases st with
    | nil => cases hL
    | cons a b => cases hL
  have nLd : L ≠ d := fun z => by rw [z, hd] at hL; cases hL
  refine ⟨_, rfl, L, rfl, ⟨_, SqL.of hL⟩, fun D hD => ?_⟩
  have s1 := same_new hD (.lst [])
  refine walk_gen (walk_list (K := K) (a := L) (xs := st.map V.str)) (fun i H' => H' D = some (.lst (((st.take i).filter fun x => decide (V.str x = V.str s)).map V.str)) ∧ Same H H') ⟨upd_same, s1⟩ (fun i H' _ h => SqL.of (h.2 _ _ hL)) ?_ ?_
  · rintro i y H1 H2 hi ⟨eD, s2⟩ ⟨rfl, hy⟩
    obtain ⟨z, hz, rfl⟩ : ∃ z, st[i]? = some z ∧ y = V.str z := by
      rw [List.getElem?_map] at hy
      cases ez : st[i]? with
      | none => rw [ez] at hy; cases hy
      | some z => rw [ez] at hy; exact ⟨z, rfl, (Option.some.inj hy).symm⟩
    refine ⟨rfl, ?_⟩
    refine ⟨_, rfl, _, rfl, rfl, _, rfl, ?_⟩
    rw [take_more hz, List.filter_append]
    by_cases c : V.str z = V.str s
    · rw [decide_eq_true c]
      refine ⟨_, rfl, _, eD, ?_, ?_, ?_⟩
      · rw [List.length_map]
        have h1 := List.length_filter_le (fun x => decide (V.str x = V.str s)) (st.take i)
        have h2 : (st.take i).length ≤ st.length := by rw [List.length_take]; omega
        exact small1000 (by omega)
      · rw [upd_same, List.filter_cons, if_pos (decide_eq_true c), List.map_append]
        rfl
      · intro b u hb
        rw [upd_ne (ne_of_none hb hD)]
        exact s2 b u hb
    · rw [decide_eq_false c]
      refine ⟨?_, s2⟩
      rw [eD, List.filter_cons, if_neg (by rw [decide_eq_false c]; decide)]
      simp
  · rintro H1 ⟨eD, s2⟩
    rw [List.length_map, List.take_length] at eD
    refine ⟨D, _, rfl, .inl (SqL.of eD), ?_⟩
    rw [List.length_map]
    refine ⟨_, rfl, .inl ⟨rfl, _, SqL.of (s2 _ _ hL)⟩, _, rfl, L, _, _, rfl, rfl, s2 _ _ hL, small1000 (by rw [List.length_map]; omega), ?_⟩
    refine ⟨_, rfl, _, rfl, d, .ref r, rfl, ?_, ?_⟩
    · rw [← hv]
      refine DGet.k (k := Sum.inr s) ?_
      rw [upd_ne (Ne.symm nLd)]
      exact s2 _ _ hd
    · refine ⟨_, rfl, _, _, rfl, rfl, (by show (0 : Int) < 3; decide), r, _, _, _, rfl, rfl, SqL.of ?_, pick_at x (cntS st s), ?_⟩
      · rw [upd_ne (Ne.symm nLr)]
        exact s2 _ _ hx
      · refine q _ (fun b u hb hn => ?_) ?_
        · rw [upd_ne hn]
          exact s2 b u hb
        · rw [upd_same, List.map_append]
          rfl
theorem pick_ok {x : Int × Int × Int} (h : (0 ≤ x.1 ∧ x.1 ≤ 30) ∧ (0 ≤ x.2.1 ∧ x.2.1 ≤ 30) ∧ 0 ≤ x.2.2 ∧ x.2.2 ≤ 30) (m : Nat) : 0 ≤ pick x m ∧ pick x m ≤ 30 := by
  unfold pick
  split
  · exact h.1
  · split
    · exact h.2.1
    · exact h.2.2
structure GI where
  g : Str → Int × Int × Int
  D : Str → Prop
  ok : ∀ s, D s → (0 ≤ (g s).1 ∧ (g s).1 ≤ 30) ∧ (0 ≤ (g s).2.1 ∧ (g s).2.1 ≤ 30) ∧ 0 ≤ (g s).2.2 ∧ (g s).2.2 ≤ 30
  d : Addr
  L : Addr
  kvs : List (Key × V)
def gO (g : Str → Int × Int × Int) (st : List Str) (s : Str) : Int := pick (g s) (cntS st s % 3)
def gN (st : List Str) (s : Str) : List Str := st ++ [s]
def asG (i : GI) : AskIs (List Str) where
  o := gO i.g
  n := gN
  D := i.D
  J k st := st.length + k ≤ 1000 ∧ ∀ s ∈ st, i.D s
  R st H := H i.L = some (.lst (st.map V.str)) ∧ H i.d = some (.dK i.kvs) ∧ ∀ s, i.D s → ∃ r, valV i.kvs (Sum.inr s) = some (.ref r) ∧ H r = some (.lst (rowL (i.g s)))
  M b := b = i.L
  ok := ⟨fun k st s _ ds => (pick_ok (i.ok s ds) _).1, fun k st s _ ds => (pick_ok (i.ok s ds) _).2, fun k st s j ds => by
    have j' : st.length + (k + 1) ≤ 1000 := j.1
    refine ⟨?_, fun x hx => ?_⟩
    · show (st ++ [s]).length + k ≤ 1000
      rw [List.length_append, List.length_singleton]; omega
    · rcases List.mem_append.mp hx with z | z
      · exact j.2 x z
      · rw [List.mem_singleton.mp z]; exact ds, fun k st j => ⟨by
    have j' : st.length + (k + 1) ≤ 1000 := j.1
    omega, j.2⟩⟩
  mok st H h b hb := by
    subst hb
    refine .inl ⟨_, h.1, fun a r e => ?_⟩
    cases st with
    | nil => cases e
    | cons x y => cases e
  fp b := b = i.L ∨ b = i.d ∨ ∃ s, i.D s ∧ valV i.kvs (Sum.inr s) = some (.ref b)
  tr st H b h hb := by
    rcases hb with e | e | ⟨s, ds, e⟩
    · rw [e]; exact ⟨_, h.1⟩
    · rw [e]; exact ⟨_, h.2.1⟩
    · obtain ⟨r, e1, e2⟩ := h.2.2 s ds
      rw [e] at e1
      cases e1
      exact ⟨_, e2⟩
  up st H H' h k := ⟨(k _ (.inl rfl)).trans h.1, (k _ (.inr (.inl rfl))).trans h.2.1, fun s ds => by
    obtain ⟨r, e1, e2⟩ := h.2.2 s ds
    exact ⟨r, e1, (k r (.inr (.inr ⟨s, ds, e1⟩))).trans e2⟩⟩
theorem row_ne {H : Hp} {L r : Addr} {st : List Str} {x : Int × Int × Int} (h : H L = some (.lst (st.map V.str))) (e : H r = some (.lst (rowL x))) : r ≠ L := fun z => by
  rw [z, h] at e
  cases st with
  | nil => cases e
  | cons a b => cases e
section
variable {P : Program} {w : World} {K : PySem.W.Frag} {mg : Str → Option Value} {base : Heap}
structure GvD (K : PySem.W.Frag) (mg : Str → Option Value) (e : Addr) (ed : FuncData) : Prop where
  F : Fun K "_law_given" "_law_given" s_law_given e ed
  b : Binds K ed ["_law_rows", "_law_asked", "_law_name"] []
  m : mg "_law_given" = some (.ref e)
theorem lam_given {e : Addr} {ed : FuncData} (GV : GvD K mg e ed) (zl : mg "len" = none) {M : LF} {params : Arguments} {body : Expr} {scope : Scope} {B : Heap} {lf : Addr} {ws : List (Option V)} {xl : Str} {p0 p1 p2 p3 p4 : Pos} (hp : M.params = params) (hb : M.body = body) (hs : M.scope = scope) (hf : B.get? lf = some M.obj) (C : CellsB B M.cl ["_law_rows", xl] ws)
    (h1 : body = .Call (.Name "_law_given" p0) [.Name "_law_rows" p1, .Name xl p2, .Name "_law_name" p3] [] p4) (h2 : NdefX.nscB ["_law_name", "_law_rows", xl] ["_law_name"] ["_law_rows", xl] scope = true) (hgl : scope.names.lookup ("_law_given" : Str) = some .globalImplicit)
    (h3 : ∀ (q : Str) (cl : List (Str × Addr)) (pm cv ctv : Value) (u : Value), bindArgs (PySem.W.kla_fn "<lambda>" q params body scope cl pm cv ctv) ⟨[u], []⟩ = pure [(("_law_name" : Str), u)])
    (i : GI) (e' : ws = [some (.ref i.d), some (.ref i.L)])
    (d1 : (xl == ("__debug__" : Str)) = false := by decide) (d2 : (xl == ("__classdict__" : Str)) = false := by decide) : Clo P w K mg B CX0 2 lf (LPre M.c M.qual) (asG i).sp := by
  subst hp hb hs e'
  have S := NdefX.nscope_by h2
  refine clo_lam (k := 1) (ps := ["_law_name"]) hf C S (fun us hl => ?_) (fun vs H Q E h => ?_) (fun A outer s H vs Q E hr hpre h => ?_)
  · match us, hl with
    | [u], _ => exact h3 _ _ _ _ _ _
  · obtain ⟨s, st, rfl, _⟩ := h
    rfl
  · obtain ⟨s, st, rfl, ds, j, ⟨hL, hd, hrow⟩, q⟩ := h
    obtain ⟨r, e1, e2⟩ := hrow s ds
    have j' : st.length + 1 ≤ 1000 := j.1
    rw [h1]
    refine ⟨_, pe_call (ok_given GV.F zl) hr hgl GV.m GV.F.kp GV.b .nil pass0 (pa_cons (pv 1 rfl (.inr (.inr (S.frk _ List.mem_cons_self)))) (pa_cons (pv 2 rfl (.inr (.inr (S.frk _ (List.mem_cons_of_mem _ List.mem_cons_self)))) d1 d2) (pa_cons (pv 0 rfl (.inl (S.par _ List.mem_cons_self))) pa_nil))), ?_⟩
    refine ⟨_, rfl, _, rfl, _, rfl, i.d, i.L, r, s, i.kvs, st, i.g s, rfl, hd, hL, by omega, e1, e2, fun H' b eL => ?_⟩
    refine q H' (fun b' u hb hn => b b' u hb hn) ⟨eL, b _ _ hd (fun z => by rw [z, hL] at hd; cases hd), fun s' ds' => ?_⟩
    obtain ⟨r', e1', e2'⟩ := hrow s' ds'
    exact ⟨r', e1', b _ _ e2' (row_ne hL e2')⟩
end

theorem tabs_but {M : Addr → Prop} {H H' : Hp} {T : List (Addr × Str)} (m : MOk M H) (t : LamX.Tabs T H) (b : ButS M H H') : LamX.Tabs T H' := fun p hp => by
  obtain ⟨ps, h1, h2, h3⟩ := t p hp
  refine ⟨ps, b _ _ h1 fun hc => ?_, h2, fun pos cv hc => ?_⟩
  · rcases m _ hc with ⟨xs, e, _⟩ | ⟨kvs, e⟩ <;> (rw [h1] at e; cases e)
  · obtain ⟨c, e1, e2⟩ := h3 pos cv hc
    exact ⟨c, e1, b _ _ e2 (m.code e2)⟩
mutual
theorem cst_le : ∀ {d : Nat} (t : T), TOk NameOk d t → cst t ≤ Sz t
  | _, .num _, _ => Nat.zero_le _
  | d, .name s, h => by
    have z : NameOk s := h.name
    unfold NameOk nameM at z
    have := (Bool.and_eq_true_iff.mp z).1
    exact (of_decide_eq_true this).1
  | 0, .gate _ _ _, h => h.elim
  | 0, .join _ _, h => h.elim
  | d + 1, .gate s b t, h => by
    have := cst_le (d := d) t h.2.2.2
    show cst t + 1 ≤ s.length + 8 + Sz t
    omega
  | d + 1, .join k ts, h => by
    have := csts_le (d := d) ts h.2.2
    show csts ts ≤ 2 + Szs ts
    omega
theorem csts_le : ∀ {d : Nat} (ts : List T), (∀ t ∈ ts, TOk NameOk d t) → csts ts ≤ Szs ts
  | _, [], _ => Nat.zero_le _
  | d, t :: r, h => by
    have h1 := cst_le (d := d) t (h t List.mem_cons_self)
    have h2 := csts_le (d := d) r fun u hu => h u (List.mem_cons_of_mem _ hu)
    show csts r + cst t ≤ Sz t + 3 + Szs r
    omega
end
end Aw

namespace Aw
open PySem L2
def spLawT (K : PySem.W.Frag) (T : Addr) : Sp := fun vs H Q _ => ∃ (a : Addr) (ns : List Int), vs = [.ref a] ∧ SqL K H a (ns.map V.int) ∧ ns.length ≤ 63 ∧ H T = some (.tbl #[]) ∧ ∀ H', Q (.bl true) H'
/-- a def of the top as it is called -/
structure Df (P : Program) (w : World) (K : PySem.W.Frag) (mg : Str → Option Value) (base : Heap) (CX : CXT) (k : Nat) (x : Str) (ps : List Str) (sp : Sp) (f : Addr) (fd : FuncData) : Prop where
  ok : FnOk P w K mg base CX k f fd ps sp
  b : Binds K fd ps []
  k : PySem.W.keepIn K (.ref f) = true
  m : mg x = some (.ref f)
/-- the def with its code object known -/
theorem fun_okC {P : Program} {w : World} {K : PySem.W.Frag} {mg : Str → Option Value} {base : Heap} {x qual : Str} {st : Stmt} {f c : Addr} {oc : Value} {od an : Option Addr} {osl : Array (Option Value)} {kV doc pm ct : Value} {N ps : List Str} {k : Nat} {sp : Sp}
    (l : K.lookup f = some ⟨oc, od, .func (PySem.W.fnOf x qual (defArgs st) (defBody st) (defScope st) .none kV doc pm an (.ref c) ct), osl⟩) (hcd : PySem.W.codeIn K (.ref c) qual = true) (S : FnScope N ps (defScope st)) (len : ∀ vs H Q E, sp vs H Q E → vs.length = ps.length)
    (hbody : ∀ (A : Around) (outer : List Env) (s : Shared) (H : Hp) (vs : List V) (Q : VK) (E : XK), Room k (A.deeper (PyProof.Rows.envOfC qual (defScope st) s.heap.objs.size f (.ref c))) → sp vs H Q E →
      ∃ t, PSs (cxOf CX0 P w K mg base N qual (defScope st) f (.ref c) A outer s H E).nox (defBody st) t ∧ t { nx := fun _ H' => Q .non H', rt := Q } (start N vs) H) :
    FnOk P w K mg base CX0 (k + 1) f (PySem.W.fnOf x qual (defArgs st) (defBody st) (defScope st) .none kV doc pm an (.ref c) ct) ps sp := by
  refine fn_of l hcd S len fun A outer s H vs Q E hr hsp => ?_
  obtain ⟨t, h, q⟩ := hbody A outer s H vs Q E hr hsp
  exact ⟨t, h.nox, q⟩
section
variable {P : Program} {w : World} {K : PySem.W.Frag} {mg : Str → Option Value} {base : Heap} {f : Addr} {fd : FuncData} {N : Addr}
abbrev QN : Str := ("law" : Str) ++ ".<locals>." ++ "<lambda>"
def spAnsG (qn : Str) (f c : Addr) (ws : List (Option V)) : Sp := fun vs H Q E => ∃ i : GI, ws = [some (.ref i.d), some (.ref i.L)] ∧ spAns (asG i) f c qn 2 vs H Q E
def spLAnsG (qn : Str) (f c : Addr) (ws : List (Option V)) : Sp := fun vs H Q E => ∃ i : GI, ws = [some (.ref i.d), some (.ref i.L)] ∧ spLAns (asG i) f c qn 2 vs H Q E
theorem ok_law {f1 f2 f3 f4 f5 f6 f7 fg fl c T an : Addr} {d1 d2 d3 d4 d5 d6 d7 d8 dg dl : FuncData} {oc : Value} {od ann : Option Addr} {osl : Array (Option Value)} {kV doc pm ct : Value}
    (l : K.lookup f = some ⟨oc, od, .func (PySem.W.fnOf "law" "law" (defArgs s_law) (defBody s_law) (defScope s_law) .none kV doc pm ann (.ref c) ct), osl⟩) (hcd : PySem.W.codeIn K (.ref c) "law" = true) (TL : TxtL K mg) (TA' : TxtA mg) (TB : LamX.TabB base mg c T)
    (Ce : Df P w K mg base CX0 1 "_law_cell_at" ["_law_script", "_law_k"] (spCell K) f1 d1) (D : Df P w K mg base CX0 1 "_law_dice" ["_law_cell"] spDice f2 d2) (Nm' : Df P w K mg base CX0 1 "_law_names" ["_law_cell", "_law_many"] spNames f3 d3)
    (Tr : Df P w K mg base CX0 4 "_law_tree" ["_law_dice_here", "_law_names_here", "_law_deep"] (spTree K 2) f4 d4) (Wr : Df P w K mg base CX0 3 "_law_written" ["_law_tree_here", "_law_firm"] (spWritten 2) f5 d5)
    (Rd : Df P w K mg base (L2.CX P w) 27 "read" ["text"] (spRead N) f6 d6) (Wh : Df P w K mg base CX0 1 "_law_whole" ["_law_found"] spWhole f7 d7)
    (AN : AnD K mg an fg fl d8 dg dl) {fL fV : Addr} {dL dV : FuncData} (LN : LnD K mg fL dL) (GV : GvD K mg fV dV) :
    FnOk P w K mg base CX0 28 f (PySem.W.fnOf "law" "law" (defArgs s_law) (defBody s_law) (defScope s_law) .none kV doc pm ann (.ref c) ct) ["_law_script"] (spLawT K T) := by
  refine fun_okC l hcd sc_law (fun vs H Q E h => ?_) (fun A outer s H vs Q E hr h => ?_)
  · obtain ⟨a, ns, rfl, _⟩ := h
    rfl
  obtain ⟨a, ns, rfl, hS, h63, hT, q⟩ := h
  have nd := sc_law.nd
  have hr1 : Room 1 _ := hr.mono (by decide)
  have hr3 : Room 3 _ := hr.mono (by decide)
  have hr4 : Room 4 _ := hr.mono (by decide)
  have hr7 : Room (2 + 1 + 2 * 2) _ := hr.mono (by decide)
  have hr5 : Room (2 + 1 + 2) _ := hr.mono (by decide)
  have hF1 : ∀ y ∈ [(("_law_name" : Str), NameKind.local), ("_law_mine", NameKind.free), ("_law_rows", NameKind.free), ("_law_given", NameKind.globalImplicit)], y.2 = .free → (defScope s_law).names.lookup y.1 = some .cell ∨ (defScope s_law).names.lookup y.1 = some .free := by decide +kernel
  have hF2 : ∀ y ∈ [(("_law_name" : Str), NameKind.local), ("_law_rows", NameKind.free), ("_law_theirs", NameKind.free), ("_law_given", NameKind.globalImplicit)], y.2 = .free → (defScope s_law).names.lookup y.1 = some .cell ∨ (defScope s_law).names.lookup y.1 = some .free := by decide +kernel
  refine ⟨_, pss_cons (ps_set (i := 1) nd rfl (.inl rfl) (pe_call Nm'.ok hr1 rfl Nm'.m Nm'.k Nm'.b .nil pass0 (pa_cons (pe_call Ce.ok hr1 rfl Ce.m Ce.k Ce.b .nil pass0 (pa_cons (pv 0) (pa_cons pe_int pa_nil)))
      (pa_cons (pe_op op_add pe_int (pe_op op_mod (pe_call Ce.ok hr1 rfl Ce.m Ce.k Ce.b .nil pass0 (pa_cons (pv 0) (pa_cons pe_int pa_nil))) pe_int)) pa_nil))))
    (pss_cons (ps_set (i := 2) nd rfl (.inl rfl) (pe_call Tr.ok hr4 rfl Tr.m Tr.k Tr.b .nil pass0 (pa_cons (pe_call D.ok hr1 rfl D.m D.k D.b .nil pass0 (pa_cons (pe_call Ce.ok hr1 rfl Ce.m Ce.k Ce.b .nil pass0 (pa_cons (pv 0) (pa_cons pe_int pa_nil))) pa_nil)) (pa_cons (pv 1) (pa_cons pe_int pa_nil)))))
    (pss_cons (ps_set (i := 10) nd rfl (.inr rfl) pe_dnewK)
    (pss_cons (ps_for PassesOwn.never rfl (pi_range1 rfl TL.range (pa_cons (pe_callB call_len_seq (by rfl) TL.len PySem.boot_len (pa_cons (pv 1) pa_nil)) pa_nil)) (pg_name (i := 3) nd rfl (.inl rfl))
      (pss_cons (ps_set (i := 4) nd rfl (.inl rfl) (pe_call Ce.ok hr1 rfl Ce.m Ce.k Ce.b .nil pass0 (pa_cons (pv 0) (pa_cons (pe_op op_add pe_int (pv 3)) pa_nil))))
      (pss_one (ps_dput (hu_of hr) (pv 10) (pe_ix ix_list (pv 1) (pv 3) (fun _ _ => rfl)) (pe_lst (pa_cons (pe_op op_mod (pv 4) pe_int) (pa_cons (pe_op op_mod (pe_op op_fdiv (pv 4) pe_int) pe_int) (pa_cons (pe_op op_mod (pe_op op_fdiv (pv 4) pe_int) pe_int) pa_nil)))) rfl))))
    (pss_cons (ps_set (i := 5) nd rfl (.inl rfl) (pe_call (E := E0) Rd.ok hr rfl Rd.m Rd.k Rd.b .nil passL (pa_cons (pe_call Wr.ok hr3 rfl Wr.m Wr.k Wr.b .nil pass0 (pa_cons (pv 2) (pa_cons pe_int pa_nil))) pa_nil)))
    (pss_cons (ps_set (i := 9) nd rfl (.inr rfl) (pe_lst pa_nil))
    (pss_cons (ps_set (i := 11) nd rfl (.inr rfl) (pe_lst pa_nil))
    (pss_cons (ps_for PassesOwn.never rfl (pi_range1 rfl TL.range (pa_cons pe_int pa_nil)) (pg_name (i := 6) nd rfl (.inl rfl))
      (pss_cons (ps_set (i := 7) nd rfl (.inl rfl) (pe_lam2 (E := E0) (T := [(T, QN)]) (sp := spLAnsG QN) (js := [10, 9]) (fr := ["_law_rows", "_law_mine"])
        (fun B f' M ws hq hp hb hs sub hf C => FnOk_ex (fun _ _ _ _ _ z => by obtain ⟨_, _, _, rfl, _⟩ := z; rfl) fun i e => by
          rw [show QN = M.qual from hq.symm]
          exact lans_all (kc := 2) (lam_given GV TL.len hp hb hs hf C rfl (by decide +kernel) rfl (fun _ _ _ _ _ _ => rfl) i e) TA' LN 2)
        (fun _ => rfl) hF1 (by decide +kernel) rfl hr5 rfl LN.m LN.F.kp LN.b pass0 (pv 2)
        TB rfl List.mem_cons_self (fun z hz _ => by rw [List.mem_singleton.mp hz]; rfl) rfl))
      (pss_cons (ps_set (i := 8) nd rfl (.inl rfl) (pe_lam2 (E := E0) (T := [(T, QN)]) (sp := spAnsG QN) (js := [10, 11]) (fr := ["_law_rows", "_law_theirs"])
        (fun B f' M ws hq hp hb hs sub hf C => FnOk_ex (fun _ _ _ _ _ z => by obtain ⟨_, _, _, rfl, _⟩ := z; rfl) fun i e => by
          rw [show QN = M.qual from hq.symm]
          exact ans_all (kc := 2) (lam_given GV TL.len hp hb hs hf C rfl (by decide +kernel) rfl (fun _ _ _ _ _ _ => rfl) i e) TA' AN 2)
        (fun _ => rfl) hF2 (by decide +kernel) rfl hr7 rfl AN.m AN.F.kp AN.b pass0 (pv 5)
        TB rfl List.mem_cons_self (fun z hz _ => by rw [List.mem_singleton.mp hz]; rfl) rfl))
      (pss_one (ps_if (PW.pt (pw_or (pt_not (pt_val (pe_call Wh.ok hr1 rfl Wh.m Wh.k Wh.b .nil pass0 (pa_cons (pv 8) pa_nil)))) (pw_or (pt_cmpR op_ne (pv 8) (pv 7) (nomark _)) (pw_or1 (pt_cmpR (op_neD hr.units) (pv 11) (pv 9) (nomark _)))))) (pss_one (ps_ret pe_bl)) pss_nil)))))
    (pss_one (ps_ret pe_bl))))))))), ?_⟩
  refine ⟨_, rfl, a, ns, 0, rfl, hS, h63, fun c0 => ?_⟩
  refine ⟨_, rfl, a, ns, 1, rfl, hS, h63, fun c1 => ?_⟩
  have m0 : 0 ≤ c1 % 5 := Int.emod_nonneg _ (by decide)
  have m1 : c1 % 5 < 5 := Int.emod_lt_of_pos _ (by decide)
  refine ⟨_, _, rfl, rfl, (by show (0 : Int) < 5; decide), _, _, rfl, rfl, c0, 1 + c1 % 5, rfl, by omega, by omega, fun l H1 nms s1 hl e1 hlen hok => ?_⟩
  refine ⟨_, rfl, a, ns, 2, rfl, s1.seq hS, h63, fun c2 => ?_⟩
  refine ⟨c2, rfl, fun dd H2 s2 hdd D2 => ?_⟩
  have e2 := s2 _ _ e1
  refine ⟨_, rfl, dd, l, nms, rfl, D2, e2, by omega, by omega, fun tv H3 t b3 D3 lv tk => ?_⟩
  have sS : Same H H3 := fun b o e => b3 b o (s2 b o (s1 b o e)) (ne_of_none (s1 b o e) hdd)
  have lv3 : LA H3 tv t := lv.mono (.of_same fresh_sub)
  have tk2 : TOk NameOk 2 t := TOk.imp hok 2 tk
  have e3 : H3 l = some (.lst (nms.map V.str)) := nl_keep D2 e2 (by omega) b3
  refine fun d hd => ?_
  have s4 : Same H3 (upd H3 d (.dK [])) := same_new hd _
  have hS3 := sS.seq hS
  refine ⟨_, rfl, l, _, rfl, .inl (SqL.of (s4 _ _ e3)), (nms.map V.str).length, rfl, by omega, by rw [List.length_map]; omega, ?_⟩
  refine for_range (lo := 0) (n := ((nms.map V.str).length : Int).toNat) (fun i σ H' => ∃ (kvs : List (Key × V)) (v3 v4 : Option V), σ = [some (.ref a), some (.ref l), some tv, v3, v4, none, none, none, none, none, some (.ref d), none] ∧ Same H3 H' ∧ H' d = some (.dK kvs) ∧ kvs.length ≤ i ∧
      ∀ s ∈ nms.take i, ∃ (x : Int × Int × Int) (r : Addr), valV kvs (Sum.inr s) = some (.ref r) ∧ H' r = some (.lst (rowL x)) ∧ ((0 ≤ x.1 ∧ x.1 ≤ 30) ∧ (0 ≤ x.2.1 ∧ x.2.1 ≤ 30) ∧ 0 ≤ x.2.2 ∧ x.2.2 ≤ 30)) ⟨[], none, none, rfl, s4, upd_same, Nat.le_refl _, fun s hs => by cases hs⟩ ?_ ?_
  · rintro i σ H5 hi ⟨kvs, v3, v4, rfl, s5, e5, hk, hv⟩
    rw [List.length_map, Int.toNat_natCast] at hi
    refine ⟨_, rfl, _, rfl, _, _, rfl, rfl, a, ns, 3 + i, (by show [V.ref a, V.int (3 + (0 + (i : Int)))] = _; rw [show (3 + (0 + (i : Int))) = ((3 + i : Nat) : Int) by omega]), s5.seq hS3, h63, fun c3 => ?_⟩
    have r0 : ∀ z : Int, 0 ≤ z % 31 := fun z => Int.emod_nonneg _ (by decide)
    have r1 : ∀ z : Int, z % 31 < 31 := fun z => Int.emod_lt_of_pos _ (by decide)
    refine ⟨_, rfl, _, _, rfl, rfl, (by show (0 : Int) < 31; decide), ?_⟩
    refine ⟨_, rfl, _, _, rfl, rfl, ⟨by decide, by decide⟩, _, _, rfl, rfl, (by show (0 : Int) < 31; decide), ?_⟩
    refine ⟨_, rfl, _, _, rfl, rfl, ⟨by decide, by decide⟩, _, _, rfl, rfl, (by show (0 : Int) < 31; decide), ?_⟩
    refine ⟨(by show 3 ≤ sizeLine; decide), fun p hp => ?_⟩
    have s6 := same_new hp (.lst (rowL (c3 % 31, c3 / 31 % 31, c3 / 961 % 31)))
    refine ⟨_, rfl, _, rfl, _, rfl, l, _, _, .str nms[i], rfl, rfl, SqL.of (s6 _ _ (s5 _ _ e3)), ?_, ?_⟩
    · rw [Int.zero_add]
      exact atI_nat (by rw [List.getElem?_map, List.getElem?_eq_getElem hi]; rfl)
    · have hn : nms[i]? = some nms[i] := List.getElem?_eq_getElem hi
      have pd : d ≠ p := ne_of_none e5 hp
      refine ⟨d, _, rfl, DPut.k (k := Sum.inr nms[i]) (s6 _ _ e5) (Nat.lt_of_le_of_lt (by omega : kvs.length ≤ 1000) (by decide)), _, _, _, rfl, fun b u hb => ?_, upd_same, ?_, fun s' hs' => ?_⟩
      · rw [upd_ne (ne_of_none hb hd)]
        exact s6 _ _ (s5 b u hb)
      · exact Nat.le_trans (length_putK _ _ _) (by omega)
      · rw [take_more hn] at hs'
        rw [valV_put]
        by_cases cc : (Sum.inr s' : Key) = Sum.inr nms[i]
        · rw [if_pos cc]
          refine ⟨(c3 % 31, c3 / 31 % 31, c3 / 961 % 31), p, rfl, ?_, ?_⟩
          · rw [upd_ne pd.symm]
            exact upd_same
          · have a0 := r0 c3; have a1 := r1 c3; have b0 := r0 (c3 / 31); have b1 := r1 (c3 / 31); have g0 := r0 (c3 / 961); have g1 := r1 (c3 / 961)
            exact ⟨⟨a0, by show c3 % 31 ≤ 30; omega⟩, ⟨b0, by show c3 / 31 % 31 ≤ 30; omega⟩, g0, by show c3 / 961 % 31 ≤ 30; omega⟩
        · rw [if_neg cc]
          rcases List.mem_append.mp hs' with z | z
          · obtain ⟨x, r, h1, h2, h3⟩ := hv s' z
            refine ⟨x, r, h1, ?_, h3⟩
            rw [upd_ne (fun z => by rw [z, e5] at h2; cases h2)]
            exact s6 _ _ h2
          · exact absurd (by rw [List.mem_singleton.mp z]) cc
  · rintro σ H5 ⟨kvs, v3, v4, rfl, s5, e5, hk, hv⟩
    rw [List.length_map, Int.toNat_natCast, List.take_length] at hv
    obtain ⟨wf, dp, sz⟩ := ok_WF 2 tk2
    have wl := wr_len (fun s h => nameOk_len h) 2 0 tk2
    have lb : LB 2 = 134 := rfl
    have cl : cst t ≤ 480 := Nat.le_trans (cst_le t tk2) sz
    have nm : Nm (fun s => s ∈ nms) t := nm_of 2 tk
    obtain ⟨g, hg⟩ : ∃ g : Str → Int × Int × Int, ∀ s ∈ nms, ∃ r : Addr, valV kvs (Sum.inr s) = some (.ref r) ∧ H5 r = some (.lst (rowL (g s))) ∧ ((0 ≤ (g s).1 ∧ (g s).1 ≤ 30) ∧ (0 ≤ (g s).2.1 ∧ (g s).2.1 ≤ 30) ∧ 0 ≤ (g s).2.2 ∧ (g s).2.2 ≤ 30) := by
      refine ⟨fun s => if h : s ∈ nms then Classical.choose (hv s h) else (0, 0, 0), fun s h => ?_⟩
      simp only [dif_pos h]
      exact Classical.choose_spec (hv s h)
    have hg3 : ∀ s, s ∈ nms → (0 ≤ (g s).1 ∧ (g s).1 ≤ 30) ∧ (0 ≤ (g s).2.1 ∧ (g s).2.1 ≤ 30) ∧ 0 ≤ (g s).2.2 ∧ (g s).2.2 ≤ 30 := fun s h => by
      obtain ⟨r, _, _, z⟩ := hg s h
      exact z
    have hT5 : H5 T = some (.tbl #[]) := s5 _ _ (sS _ _ hT)
    refine ⟨_, rfl, tv, t, 0, rfl, lv3.mono (.of_same s5), tk2, fun H6 s6 => ?_⟩
    refine ⟨wr 0 t, rfl, big (by omega), fun t7 et v7 H7 s7 ta7 => ?_, fun en => by rw [read_wr tk2] at en; cases en⟩
    rw [read_wr tk2] at et
    cases et
    refine ⟨(by show 0 ≤ sizeLine; decide), fun mi hmi => ?_⟩
    have s8 := same_new hmi (.lst [])
    refine ⟨(by show 0 ≤ sizeLine; decide), fun th hth => ?_⟩
    have s9 := same_new hth (.lst [])
    have ne : mi ≠ th := ne_of_none upd_same hth
    have s59 := ((s6.trans s7).trans s8).trans s9
    refine ⟨2, rfl, by decide, by decide, ?_⟩
    refine for_range (lo := 0) (n := 2) (fun i σ H' => ∃ (st : List Str) (v6 v7' v8 : Option V), σ = [some (.ref a), some (.ref l), some tv, v3, v4, some v7, v6, v7', v8, some (.ref mi), some (.ref d), some (.ref th)] ∧
      H' mi = some (.lst (st.map V.str)) ∧ H' th = some (.lst (st.map V.str)) ∧ st.length ≤ 480 * i ∧ (∀ s ∈ st, s ∈ nms) ∧ LA H' tv t ∧ TA H' v7 t ∧ H' d = some (.dK kvs) ∧ (∀ s, s ∈ nms → ∃ r, valV kvs (Sum.inr s) = some (.ref r) ∧ H' r = some (.lst (rowL (g s)))) ∧ LamX.Tabs [(T, QN)] H')
      ⟨[], _, _, _, rfl, s9 _ _ upd_same, upd_same, Nat.zero_le _, (fun s hs => by cases hs), (lv3.mono (.of_same s5)).mono (.of_same s59), ta7.mono (.of_same (s8.trans s9)), s59 _ _ e5, fun s h => ?_, fun p hp => ?_⟩ ?_ ?_
    · obtain ⟨r, h1, h2, _⟩ := hg s h
      exact ⟨r, h1, s59 _ _ h2⟩
    · rw [List.mem_singleton.mp hp]
      exact LamX.TabS.nil (s59 _ _ hT5)
    · rintro i σ HA hi ⟨st, v6, v7', v8, rfl, eM, eT, hl, hD, lA, tA, eD, hR, hTabs⟩
      have hi1 : 480 * i ≤ 480 := by omega
      have key : ∀ {HB HC : Hp} {L : Addr}, LamX.ExtN HB HC → HB L = some (.lst (st.map V.str)) → HC L = some (.lst (st.map V.str)) := fun e h => e _ _ h (fun _ z => by cases z)
      have j0 : ∀ L : Addr, (asG ⟨g, (· ∈ nms), hg3, d, L, kvs⟩).J (cst t) st := fun L => ⟨by omega, hD⟩
      have lAx : ∀ {HC : Hp}, LamX.ExtN HA HC → LA HC tv t := fun {HC} s => lA.mono ⟨fun b xs e => s b _ e (fun _ z => by cases z), fun b x r e => s b _ e (fun _ z => by cases z)⟩
      have tAx : ∀ {HC : Hp}, LamX.ExtN HA HC → TA HC v7 t := fun {HC} s => tA.mono (fun b xs e => s b _ e (fun _ z => by cases z))
      have RA : ∀ (L : Addr) (HC : Hp), LamX.ExtN HA HC → HA L = some (.lst (st.map V.str)) → (asG ⟨g, (· ∈ nms), hg3, d, L, kvs⟩).R st HC := fun L HC e h => ⟨key e h, e _ _ eD (fun _ z => by cases z), fun s hs => by
        obtain ⟨r, h1, h2⟩ := hR s hs
        exact ⟨r, h1, e _ _ h2 (fun _ z => by cases z)⟩⟩
      refine ⟨_, rfl, hTabs, fun f1 c1 HB eB TBs hc1 => ?_⟩
      have R1 := RA mi HB eB eM
      refine ⟨⟨g, (· ∈ nms), hg3, d, mi, kvs⟩, rfl, tv, t, st, rfl, lAx eB, wf, nm, dp, Nat.le_trans sz (by decide), j0 mi, R1, hc1, fun HC bC RC => ?_⟩
      have mkB := (asG ⟨g, (· ∈ nms), hg3, d, mi, kvs⟩).mok _ _ R1
      have TC := tabs_but mkB TBs bC
      have eTC : HC th = some (.lst (st.map V.str)) := bC _ _ (key eB eT) (fun z : th = mi => ne z.symm)
      refine ⟨_, rfl, TC, fun f2 c2 HD eDD TDs hc2 => ?_⟩
      have kpD : ∀ b u, HA b = some u → (∀ ps, u ≠ .tbl ps) → b ≠ mi → HD b = some u := fun b u e n1 n2 => eDD _ _ (bC _ _ (eB _ _ e n1) n2) n1
      have R2 : (asG ⟨g, (· ∈ nms), hg3, d, th, kvs⟩).R st HD := by
        refine ⟨key eDD eTC, eDD _ _ RC.2.1 (fun _ z => by cases z), fun s hs => ?_⟩
        obtain ⟨r, h1, h2⟩ := RC.2.2 s hs
        exact ⟨r, h1, eDD _ _ h2 (fun _ z => by cases z)⟩
      have tD : TA HD v7 t := (((tAx eB).mono (mkB.tups bC))).mono (fun b xs e => eDD b _ e (fun _ z => by cases z))
      have lD : LA HD tv t := ((lAx eB).mono (mkB.keep bC)).mono ⟨fun b xs e => eDD b _ e (fun _ z => by cases z), fun b x r e => eDD b _ e (fun _ z => by cases z)⟩
      refine ⟨⟨g, (· ∈ nms), hg3, d, th, kvs⟩, rfl, v7, t, st, rfl, tD, wf, nm, dp, Nat.le_trans sz (by decide), j0 th, R2, hc2, fun HE bE RE => ?_⟩
      have mkD := (asG ⟨g, (· ∈ nms), hg3, d, th, kvs⟩).mok _ _ R2
      have TE' := tabs_but mkD TDs bE
      have eME : HE mi = some (.lst ((ans (gO g) gN t st).2.map V.str)) := bE _ _ (eDD _ _ RC.1 (fun _ z => by cases z)) (fun z : mi = th => ne z)
      have eTE : HE th = some (.lst ((ans (gO g) gN t st).2.map V.str)) := RE.1
      obtain ⟨_, _, jE⟩ := ans_ok (asG ⟨g, (· ∈ nms), hg3, d, mi, kvs⟩).ok t 0 st wf nm (by rw [Nat.zero_add]; exact j0 mi)
      have hDE : ∀ s ∈ (ans (gO g) gN t st).2, s ∈ nms := jE.2
      have ook : ∀ s ∈ (ans (gO g) gN t st).2, NameOk s := fun s hs => hok s (hDE s hs)
      have lenE : (ans (gO g) gN t st).2.length ≤ 480 * (i + 1) := by
        obtain ⟨_, _, jL⟩ := ans_ok (asG ⟨g, (· ∈ nms), hg3, d, mi, kvs⟩).ok t (1000 - st.length - cst t) st wf nm ⟨by omega, hD⟩
        have z : (ans (gO g) gN t st).2.length + (1000 - st.length - cst t) ≤ 1000 := jL.1
        omega
      refine ⟨_, rfl, _, rfl, _, rfl, ?_⟩
      refine iteF ⟨_, rfl, _, rfl, rfl, _, rfl, ?_⟩
      rw [decide_eq_true (show V.int (ans (asG ⟨g, (· ∈ nms), hg3, d, th, kvs⟩).o (asG ⟨g, (· ∈ nms), hg3, d, th, kvs⟩).n t st).1 = V.int (ans (asG ⟨g, (· ∈ nms), hg3, d, mi, kvs⟩).o (asG ⟨g, (· ∈ nms), hg3, d, mi, kvs⟩).n t st).1 from rfl)]
      refine iteF ⟨_, rfl, _, rfl, _, _, .lst (SqL.of eTE) (dp_strs _), .lst (SqL.of eME) (dp_strs _), shaped_strs ook, shaped_strs ook, _, rfl, ?_⟩
      rw [eqv_strs ook]
      exact iteF ⟨_, _, _, _, rfl, eME, eTE, lenE, hDE, lD.mono (mkD.keep bE), tD.mono (mkD.tups bE), RE.2.1, RE.2.2, TE'⟩
    · rintro σ HA ⟨st, v6, v7', v8, rfl, _⟩
      exact q _
end
end Aw

namespace Aw
open PySem L2
theorem all_mk {l : PySem.W.OpenLaw} {w : World} {K : PySem.W.Frag} {h : Heap} {mg : Str → Option Value} {fa C N : Addr} (X : K.In h) (G : h.Ns mainGlobals mg) (hfa : mg "law" = some (.ref fa)) {ts : List Addr} (hts : ∀ P ∈ ts, h.get? P = some (PySem.W.tabObj #[]))
    {f_number_piece : Addr} {od_number_piece an_number_piece : Option Addr} {sl_number_piece : Array (Option Value)} {oc_number_piece kV_number_piece dc_number_piece pm_number_piece cd_number_piece ct_number_piece : Value}
    {f_name_piece : Addr} {od_name_piece an_name_piece : Option Addr} {sl_name_piece : Array (Option Value)} {oc_name_piece kV_name_piece dc_name_piece pm_name_piece cd_name_piece ct_name_piece : Value}
    {f_gate_piece : Addr} {od_gate_piece an_gate_piece : Option Addr} {sl_gate_piece : Array (Option Value)} {oc_gate_piece kV_gate_piece dc_gate_piece pm_gate_piece cd_gate_piece ct_gate_piece : Value}
    {f_joined_piece : Addr} {od_joined_piece an_joined_piece : Option Addr} {sl_joined_piece : Array (Option Value)} {oc_joined_piece kV_joined_piece dc_joined_piece pm_joined_piece cd_joined_piece ct_joined_piece : Value}
    {f_answer_of : Addr} {od_answer_of an_answer_of : Option Addr} {sl_answer_of : Array (Option Value)} {oc_answer_of kV_answer_of dc_answer_of pm_answer_of cd_answer_of ct_answer_of : Value}
    {f_gate_answer : Addr} {od_gate_answer an_gate_answer : Option Addr} {sl_gate_answer : Array (Option Value)} {oc_gate_answer kV_gate_answer dc_gate_answer pm_gate_answer cd_gate_answer ct_gate_answer : Value}
    {f_least_answer : Addr} {od_least_answer an_least_answer : Option Addr} {sl_least_answer : Array (Option Value)} {oc_least_answer kV_least_answer dc_least_answer pm_least_answer cd_least_answer ct_least_answer : Value}
    {f_Words_init : Addr} {od_Words_init an_Words_init : Option Addr} {sl_Words_init : Array (Option Value)} {oc_Words_init kV_Words_init dc_Words_init pm_Words_init cd_Words_init ct_Words_init : Value}
    {f_Words_ahead : Addr} {od_Words_ahead an_Words_ahead : Option Addr} {sl_Words_ahead : Array (Option Value)} {oc_Words_ahead kV_Words_ahead dc_Words_ahead pm_Words_ahead cd_Words_ahead ct_Words_ahead : Value}
    {f_Words_taken : Addr} {od_Words_taken an_Words_taken : Option Addr} {sl_Words_taken : Array (Option Value)} {oc_Words_taken kV_Words_taken dc_Words_taken pm_Words_taken cd_Words_taken ct_Words_taken : Value}
    {f_Words_expect : Addr} {od_Words_expect an_Words_expect : Option Addr} {sl_Words_expect : Array (Option Value)} {oc_Words_expect kV_Words_expect dc_Words_expect pm_Words_expect cd_Words_expect ct_Words_expect : Value}
    {f_read : Addr} {od_read an_read : Option Addr} {sl_read : Array (Option Value)} {oc_read kV_read dc_read pm_read cd_read ct_read : Value}
    {f_words_of : Addr} {od_words_of an_words_of : Option Addr} {sl_words_of : Array (Option Value)} {oc_words_of kV_words_of dc_words_of pm_words_of cd_words_of ct_words_of : Value}
    {f_kind_of : Addr} {od_kind_of an_kind_of : Option Addr} {sl_kind_of : Array (Option Value)} {oc_kind_of kV_kind_of dc_kind_of pm_kind_of cd_kind_of ct_kind_of : Value}
    {f_read_level : Addr} {od_read_level an_read_level : Option Addr} {sl_read_level : Array (Option Value)} {oc_read_level kV_read_level dc_read_level pm_read_level cd_read_level ct_read_level : Value}
    {f_read_piece : Addr} {od_read_piece an_read_piece : Option Addr} {sl_read_piece : Array (Option Value)} {oc_read_piece kV_read_piece dc_read_piece pm_read_piece cd_read_piece ct_read_piece : Value}
    {f_read_gate : Addr} {od_read_gate an_read_gate : Option Addr} {sl_read_gate : Array (Option Value)} {oc_read_gate kV_read_gate dc_read_gate pm_read_gate cd_read_gate ct_read_gate : Value}
    {f_is_name : Addr} {od_is_name an_is_name : Option Addr} {sl_is_name : Array (Option Value)} {oc_is_name kV_is_name dc_is_name pm_is_name cd_is_name ct_is_name : Value}
    {f_number_of : Addr} {od_number_of an_number_of : Option Addr} {sl_number_of : Array (Option Value)} {oc_number_of kV_number_of dc_number_of pm_number_of cd_number_of ct_number_of : Value}
    {f_law_cell_at : Addr} {od_law_cell_at an_law_cell_at : Option Addr} {sl_law_cell_at : Array (Option Value)} {oc_law_cell_at kV_law_cell_at dc_law_cell_at pm_law_cell_at cd_law_cell_at ct_law_cell_at : Value}
    {f_law_dice : Addr} {od_law_dice an_law_dice : Option Addr} {sl_law_dice : Array (Option Value)} {oc_law_dice kV_law_dice dc_law_dice pm_law_dice cd_law_dice ct_law_dice : Value}
    {f_law_roll : Addr} {od_law_roll an_law_roll : Option Addr} {sl_law_roll : Array (Option Value)} {oc_law_roll kV_law_roll dc_law_roll pm_law_roll cd_law_roll ct_law_roll : Value}
    {f_law_names : Addr} {od_law_names an_law_names : Option Addr} {sl_law_names : Array (Option Value)} {oc_law_names kV_law_names dc_law_names pm_law_names cd_law_names ct_law_names : Value}
    {f_law_tree : Addr} {od_law_tree an_law_tree : Option Addr} {sl_law_tree : Array (Option Value)} {oc_law_tree kV_law_tree dc_law_tree pm_law_tree cd_law_tree ct_law_tree : Value}
    {f_law_answer : Addr} {od_law_answer an_law_answer : Option Addr} {sl_law_answer : Array (Option Value)} {oc_law_answer kV_law_answer dc_law_answer pm_law_answer cd_law_answer ct_law_answer : Value}
    {f_law_written : Addr} {od_law_written an_law_written : Option Addr} {sl_law_written : Array (Option Value)} {oc_law_written kV_law_written dc_law_written pm_law_written cd_law_written ct_law_written : Value}
    {f_law_whole : Addr} {od_law_whole an_law_whole : Option Addr} {sl_law_whole : Array (Option Value)} {oc_law_whole kV_law_whole dc_law_whole pm_law_whole cd_law_whole ct_law_whole : Value}
    {f_law_given : Addr} {od_law_given an_law_given : Option Addr} {sl_law_given : Array (Option Value)} {oc_law_given kV_law_given dc_law_given pm_law_given cd_law_given ct_law_given : Value}
    {f_law : Addr} {od_law an_law : Option Addr} {sl_law : Array (Option Value)} {oc_law kV_law dc_law pm_law ct_law : Value}
    {tk1 tk2 tk3 tk4 tk5 tk6 tk7 tk8 tk9 tl1 tl2 tl3 tg1 tg2 tg3 : Tok} {aL aS : Addr} {odL : Option Addr} {nL nS : Nat} {slL : Array (Option Value)} {esS : Array DictEntry}
    {cL PL : Addr} {odC : Option Addr} {vsC : Array Value} {slC : Array (Option Value)}
    (a_number_piece : PySem.W.nsIn K mainGlobals "number_piece" = some (some (.ref f_number_piece)))
    (l_number_piece : K.lookup f_number_piece = some ⟨oc_number_piece, od_number_piece, .func (PySem.W.fnOf "number_piece" "number_piece" (defArgs s_number_piece) (defBody s_number_piece) (defScope s_number_piece) .none kV_number_piece dc_number_piece pm_number_piece an_number_piece cd_number_piece ct_number_piece), sl_number_piece⟩) (c_number_piece : PySem.W.codeIn K cd_number_piece "number_piece" = true) (k_number_piece : PySem.W.keepIn K (.ref f_number_piece) = true)
    (a_name_piece : PySem.W.nsIn K mainGlobals "name_piece" = some (some (.ref f_name_piece)))
    (l_name_piece : K.lookup f_name_piece = some ⟨oc_name_piece, od_name_piece, .func (PySem.W.fnOf "name_piece" "name_piece" (defArgs s_name_piece) (defBody s_name_piece) (defScope s_name_piece) .none kV_name_piece dc_name_piece pm_name_piece an_name_piece cd_name_piece ct_name_piece), sl_name_piece⟩) (c_name_piece : PySem.W.codeIn K cd_name_piece "name_piece" = true) (k_name_piece : PySem.W.keepIn K (.ref f_name_piece) = true)
    (a_gate_piece : PySem.W.nsIn K mainGlobals "gate_piece" = some (some (.ref f_gate_piece)))
    (l_gate_piece : K.lookup f_gate_piece = some ⟨oc_gate_piece, od_gate_piece, .func (PySem.W.fnOf "gate_piece" "gate_piece" (defArgs s_gate_piece) (defBody s_gate_piece) (defScope s_gate_piece) .none kV_gate_piece dc_gate_piece pm_gate_piece an_gate_piece cd_gate_piece ct_gate_piece), sl_gate_piece⟩) (c_gate_piece : PySem.W.codeIn K cd_gate_piece "gate_piece" = true) (k_gate_piece : PySem.W.keepIn K (.ref f_gate_piece) = true)
    (a_joined_piece : PySem.W.nsIn K mainGlobals "joined_piece" = some (some (.ref f_joined_piece)))
    (l_joined_piece : K.lookup f_joined_piece = some ⟨oc_joined_piece, od_joined_piece, .func (PySem.W.fnOf "joined_piece" "joined_piece" (defArgs s_joined_piece) (defBody s_joined_piece) (defScope s_joined_piece) .none kV_joined_piece dc_joined_piece pm_joined_piece an_joined_piece cd_joined_piece ct_joined_piece), sl_joined_piece⟩) (c_joined_piece : PySem.W.codeIn K cd_joined_piece "joined_piece" = true) (k_joined_piece : PySem.W.keepIn K (.ref f_joined_piece) = true)
    (a_answer_of : PySem.W.nsIn K mainGlobals "answer_of" = some (some (.ref f_answer_of)))
    (l_answer_of : K.lookup f_answer_of = some ⟨oc_answer_of, od_answer_of, .func (PySem.W.fnOf "answer_of" "answer_of" (defArgs s_answer_of) (defBody s_answer_of) (defScope s_answer_of) .none kV_answer_of dc_answer_of pm_answer_of an_answer_of cd_answer_of ct_answer_of), sl_answer_of⟩) (c_answer_of : PySem.W.codeIn K cd_answer_of "answer_of" = true) (k_answer_of : PySem.W.keepIn K (.ref f_answer_of) = true)
    (a_gate_answer : PySem.W.nsIn K mainGlobals "gate_answer" = some (some (.ref f_gate_answer)))
    (l_gate_answer : K.lookup f_gate_answer = some ⟨oc_gate_answer, od_gate_answer, .func (PySem.W.fnOf "gate_answer" "gate_answer" (defArgs s_gate_answer) (defBody s_gate_answer) (defScope s_gate_answer) .none kV_gate_answer dc_gate_answer pm_gate_answer an_gate_answer cd_gate_answer ct_gate_answer), sl_gate_answer⟩) (c_gate_answer : PySem.W.codeIn K cd_gate_answer "gate_answer" = true) (k_gate_answer : PySem.W.keepIn K (.ref f_gate_answer) = true)
    (a_least_answer : PySem.W.nsIn K mainGlobals "least_answer" = some (some (.ref f_least_answer)))
    (l_least_answer : K.lookup f_least_answer = some ⟨oc_least_answer, od_least_answer, .func (PySem.W.fnOf "least_answer" "least_answer" (defArgs s_least_answer) (defBody s_least_answer) (defScope s_least_answer) .none kV_least_answer dc_least_answer pm_least_answer an_least_answer cd_least_answer ct_least_answer), sl_least_answer⟩) (c_least_answer : PySem.W.codeIn K cd_least_answer "least_answer" = true) (k_least_answer : PySem.W.keepIn K (.ref f_least_answer) = true)
    (a_Words_init : PySem.W.findIn K (.ref C) "__init__" = some (some (.ref f_Words_init))) (i_Words_init : PySem.W.isFn K (.ref f_Words_init) = true)
    (l_Words_init : K.lookup f_Words_init = some ⟨oc_Words_init, od_Words_init, .func (PySem.W.fnOf "__init__" "Words.__init__" (defArgs s_Words_init) (defBody s_Words_init) (defScope s_Words_init) .none kV_Words_init dc_Words_init pm_Words_init an_Words_init cd_Words_init ct_Words_init), sl_Words_init⟩) (c_Words_init : PySem.W.codeIn K cd_Words_init "Words.__init__" = true) (k_Words_init : PySem.W.keepIn K (.ref f_Words_init) = true)
    (a_Words_ahead : PySem.W.findIn K (.ref C) "ahead" = some (some (.ref f_Words_ahead))) (i_Words_ahead : PySem.W.isFn K (.ref f_Words_ahead) = true)
    (l_Words_ahead : K.lookup f_Words_ahead = some ⟨oc_Words_ahead, od_Words_ahead, .func (PySem.W.fnOf "ahead" "Words.ahead" (defArgs s_Words_ahead) (defBody s_Words_ahead) (defScope s_Words_ahead) .none kV_Words_ahead dc_Words_ahead pm_Words_ahead an_Words_ahead cd_Words_ahead ct_Words_ahead), sl_Words_ahead⟩) (c_Words_ahead : PySem.W.codeIn K cd_Words_ahead "Words.ahead" = true) (k_Words_ahead : PySem.W.keepIn K (.ref f_Words_ahead) = true)
    (a_Words_taken : PySem.W.findIn K (.ref C) "taken" = some (some (.ref f_Words_taken))) (i_Words_taken : PySem.W.isFn K (.ref f_Words_taken) = true)
    (l_Words_taken : K.lookup f_Words_taken = some ⟨oc_Words_taken, od_Words_taken, .func (PySem.W.fnOf "taken" "Words.taken" (defArgs s_Words_taken) (defBody s_Words_taken) (defScope s_Words_taken) .none kV_Words_taken dc_Words_taken pm_Words_taken an_Words_taken cd_Words_taken ct_Words_taken), sl_Words_taken⟩) (c_Words_taken : PySem.W.codeIn K cd_Words_taken "Words.taken" = true) (k_Words_taken : PySem.W.keepIn K (.ref f_Words_taken) = true)
    (a_Words_expect : PySem.W.findIn K (.ref C) "expect" = some (some (.ref f_Words_expect))) (i_Words_expect : PySem.W.isFn K (.ref f_Words_expect) = true)
    (l_Words_expect : K.lookup f_Words_expect = some ⟨oc_Words_expect, od_Words_expect, .func (PySem.W.fnOf "expect" "Words.expect" (defArgs s_Words_expect) (defBody s_Words_expect) (defScope s_Words_expect) .none kV_Words_expect dc_Words_expect pm_Words_expect an_Words_expect cd_Words_expect ct_Words_expect), sl_Words_expect⟩) (c_Words_expect : PySem.W.codeIn K cd_Words_expect "Words.expect" = true) (k_Words_expect : PySem.W.keepIn K (.ref f_Words_expect) = true)
    (a_read : PySem.W.nsIn K mainGlobals "read" = some (some (.ref f_read)))
    (l_read : K.lookup f_read = some ⟨oc_read, od_read, .func (PySem.W.fnOf "read" "read" (defArgs s_read) (defBody s_read) (defScope s_read) .none kV_read dc_read pm_read an_read cd_read ct_read), sl_read⟩) (c_read : PySem.W.codeIn K cd_read "read" = true) (k_read : PySem.W.keepIn K (.ref f_read) = true)
    (a_words_of : PySem.W.nsIn K mainGlobals "words_of" = some (some (.ref f_words_of)))
    (l_words_of : K.lookup f_words_of = some ⟨oc_words_of, od_words_of, .func (PySem.W.fnOf "words_of" "words_of" (defArgs s_words_of) (defBody s_words_of) (defScope s_words_of) .none kV_words_of dc_words_of pm_words_of an_words_of cd_words_of ct_words_of), sl_words_of⟩) (c_words_of : PySem.W.codeIn K cd_words_of "words_of" = true) (k_words_of : PySem.W.keepIn K (.ref f_words_of) = true)
    (a_kind_of : PySem.W.nsIn K mainGlobals "kind_of" = some (some (.ref f_kind_of)))
    (l_kind_of : K.lookup f_kind_of = some ⟨oc_kind_of, od_kind_of, .func (PySem.W.fnOf "kind_of" "kind_of" (defArgs s_kind_of) (defBody s_kind_of) (defScope s_kind_of) .none kV_kind_of dc_kind_of pm_kind_of an_kind_of cd_kind_of ct_kind_of), sl_kind_of⟩) (c_kind_of : PySem.W.codeIn K cd_kind_of "kind_of" = true) (k_kind_of : PySem.W.keepIn K (.ref f_kind_of) = true)
    (a_read_level : PySem.W.nsIn K mainGlobals "read_level" = some (some (.ref f_read_level)))
    (l_read_level : K.lookup f_read_level = some ⟨oc_read_level, od_read_level, .func (PySem.W.fnOf "read_level" "read_level" (defArgs s_read_level) (defBody s_read_level) (defScope s_read_level) .none kV_read_level dc_read_level pm_read_level an_read_level cd_read_level ct_read_level), sl_read_level⟩) (c_read_level : PySem.W.codeIn K cd_read_level "read_level" = true) (k_read_level : PySem.W.keepIn K (.ref f_read_level) = true)
    (a_read_piece : PySem.W.nsIn K mainGlobals "read_piece" = some (some (.ref f_read_piece)))
    (l_read_piece : K.lookup f_read_piece = some ⟨oc_read_piece, od_read_piece, .func (PySem.W.fnOf "read_piece" "read_piece" (defArgs s_read_piece) (defBody s_read_piece) (defScope s_read_piece) .none kV_read_piece dc_read_piece pm_read_piece an_read_piece cd_read_piece ct_read_piece), sl_read_piece⟩) (c_read_piece : PySem.W.codeIn K cd_read_piece "read_piece" = true) (k_read_piece : PySem.W.keepIn K (.ref f_read_piece) = true)
    (a_read_gate : PySem.W.nsIn K mainGlobals "read_gate" = some (some (.ref f_read_gate)))
    (l_read_gate : K.lookup f_read_gate = some ⟨oc_read_gate, od_read_gate, .func (PySem.W.fnOf "read_gate" "read_gate" (defArgs s_read_gate) (defBody s_read_gate) (defScope s_read_gate) .none kV_read_gate dc_read_gate pm_read_gate an_read_gate cd_read_gate ct_read_gate), sl_read_gate⟩) (c_read_gate : PySem.W.codeIn K cd_read_gate "read_gate" = true) (k_read_gate : PySem.W.keepIn K (.ref f_read_gate) = true)
    (a_is_name : PySem.W.nsIn K mainGlobals "is_name" = some (some (.ref f_is_name)))
    (l_is_name : K.lookup f_is_name = some ⟨oc_is_name, od_is_name, .func (PySem.W.fnOf "is_name" "is_name" (defArgs s_is_name) (defBody s_is_name) (defScope s_is_name) .none kV_is_name dc_is_name pm_is_name an_is_name cd_is_name ct_is_name), sl_is_name⟩) (c_is_name : PySem.W.codeIn K cd_is_name "is_name" = true) (k_is_name : PySem.W.keepIn K (.ref f_is_name) = true)
    (a_number_of : PySem.W.nsIn K mainGlobals "number_of" = some (some (.ref f_number_of)))
    (l_number_of : K.lookup f_number_of = some ⟨oc_number_of, od_number_of, .func (PySem.W.fnOf "number_of" "number_of" (defArgs s_number_of) (defBody s_number_of) (defScope s_number_of) .none kV_number_of dc_number_of pm_number_of an_number_of cd_number_of ct_number_of), sl_number_of⟩) (c_number_of : PySem.W.codeIn K cd_number_of "number_of" = true) (k_number_of : PySem.W.keepIn K (.ref f_number_of) = true)
    (a_law_cell_at : PySem.W.nsIn K mainGlobals "_law_cell_at" = some (some (.ref f_law_cell_at)))
    (l_law_cell_at : K.lookup f_law_cell_at = some ⟨oc_law_cell_at, od_law_cell_at, .func (PySem.W.fnOf "_law_cell_at" "_law_cell_at" (defArgs s_law_cell_at) (defBody s_law_cell_at) (defScope s_law_cell_at) .none kV_law_cell_at dc_law_cell_at pm_law_cell_at an_law_cell_at cd_law_cell_at ct_law_cell_at), sl_law_cell_at⟩) (c_law_cell_at : PySem.W.codeIn K cd_law_cell_at "_law_cell_at" = true) (k_law_cell_at : PySem.W.keepIn K (.ref f_law_cell_at) = true)
    (a_law_dice : PySem.W.nsIn K mainGlobals "_law_dice" = some (some (.ref f_law_dice)))
    (l_law_dice : K.lookup f_law_dice = some ⟨oc_law_dice, od_law_dice, .func (PySem.W.fnOf "_law_dice" "_law_dice" (defArgs s_law_dice) (defBody s_law_dice) (defScope s_law_dice) .none kV_law_dice dc_law_dice pm_law_dice an_law_dice cd_law_dice ct_law_dice), sl_law_dice⟩) (c_law_dice : PySem.W.codeIn K cd_law_dice "_law_dice" = true) (k_law_dice : PySem.W.keepIn K (.ref f_law_dice) = true)
    (a_law_roll : PySem.W.nsIn K mainGlobals "_law_roll" = some (some (.ref f_law_roll)))
    (l_law_roll : K.lookup f_law_roll = some ⟨oc_law_roll, od_law_roll, .func (PySem.W.fnOf "_law_roll" "_law_roll" (defArgs s_law_roll) (defBody s_law_roll) (defScope s_law_roll) .none kV_law_roll dc_law_roll pm_law_roll an_law_roll cd_law_roll ct_law_roll), sl_law_roll⟩) (c_law_roll : PySem.W.codeIn K cd_law_roll "_law_roll" = true) (k_law_roll : PySem.W.keepIn K (.ref f_law_roll) = true)
    (a_law_names : PySem.W.nsIn K mainGlobals "_law_names" = some (some (.ref f_law_names)))
    (l_law_names : K.lookup f_law_names = some ⟨oc_law_names, od_law_names, .func (PySem.W.fnOf "_law_names" "_law_names" (defArgs s_law_names) (defBody s_law_names) (defScope s_law_names) .none kV_law_names dc_law_names pm_law_names an_law_names cd_law_names ct_law_names), sl_law_names⟩) (c_law_names : PySem.W.codeIn K cd_law_names "_law_names" = true) (k_law_names : PySem.W.keepIn K (.ref f_law_names) = true)
    (a_law_tree : PySem.W.nsIn K mainGlobals "_law_tree" = some (some (.ref f_law_tree)))
    (l_law_tree : K.lookup f_law_tree = some ⟨oc_law_tree, od_law_tree, .func (PySem.W.fnOf "_law_tree" "_law_tree" (defArgs s_law_tree) (defBody s_law_tree) (defScope s_law_tree) .none kV_law_tree dc_law_tree pm_law_tree an_law_tree cd_law_tree ct_law_tree), sl_law_tree⟩) (c_law_tree : PySem.W.codeIn K cd_law_tree "_law_tree" = true) (k_law_tree : PySem.W.keepIn K (.ref f_law_tree) = true)
    (a_law_answer : PySem.W.nsIn K mainGlobals "_law_answer" = some (some (.ref f_law_answer)))
    (l_law_answer : K.lookup f_law_answer = some ⟨oc_law_answer, od_law_answer, .func (PySem.W.fnOf "_law_answer" "_law_answer" (defArgs s_law_answer) (defBody s_law_answer) (defScope s_law_answer) .none kV_law_answer dc_law_answer pm_law_answer an_law_answer cd_law_answer ct_law_answer), sl_law_answer⟩) (c_law_answer : PySem.W.codeIn K cd_law_answer "_law_answer" = true) (k_law_answer : PySem.W.keepIn K (.ref f_law_answer) = true)
    (a_law_written : PySem.W.nsIn K mainGlobals "_law_written" = some (some (.ref f_law_written)))
    (l_law_written : K.lookup f_law_written = some ⟨oc_law_written, od_law_written, .func (PySem.W.fnOf "_law_written" "_law_written" (defArgs s_law_written) (defBody s_law_written) (defScope s_law_written) .none kV_law_written dc_law_written pm_law_written an_law_written cd_law_written ct_law_written), sl_law_written⟩) (c_law_written : PySem.W.codeIn K cd_law_written "_law_written" = true) (k_law_written : PySem.W.keepIn K (.ref f_law_written) = true)
    (a_law_whole : PySem.W.nsIn K mainGlobals "_law_whole" = some (some (.ref f_law_whole)))
    (l_law_whole : K.lookup f_law_whole = some ⟨oc_law_whole, od_law_whole, .func (PySem.W.fnOf "_law_whole" "_law_whole" (defArgs s_law_whole) (defBody s_law_whole) (defScope s_law_whole) .none kV_law_whole dc_law_whole pm_law_whole an_law_whole cd_law_whole ct_law_whole), sl_law_whole⟩) (c_law_whole : PySem.W.codeIn K cd_law_whole "_law_whole" = true) (k_law_whole : PySem.W.keepIn K (.ref f_law_whole) = true)
    (a_law_given : PySem.W.nsIn K mainGlobals "_law_given" = some (some (.ref f_law_given)))
    (l_law_given : K.lookup f_law_given = some ⟨oc_law_given, od_law_given, .func (PySem.W.fnOf "_law_given" "_law_given" (defArgs s_law_given) (defBody s_law_given) (defScope s_law_given) .none kV_law_given dc_law_given pm_law_given an_law_given cd_law_given ct_law_given), sl_law_given⟩) (c_law_given : PySem.W.codeIn K cd_law_given "_law_given" = true) (k_law_given : PySem.W.keepIn K (.ref f_law_given) = true)
    (a_law : PySem.W.nsIn K mainGlobals "law" = some (some (.ref f_law)))
    (l_law : K.lookup f_law = some ⟨oc_law, od_law, .func (PySem.W.fnOf "law" "law" (defArgs s_law) (defBody s_law) (defScope s_law) .none kV_law dc_law pm_law an_law (.ref cL) ct_law), sl_law⟩) (c_law : PySem.W.codeIn K (.ref cL) "law" = true) (k_law : PySem.W.keepIn K (.ref f_law) = true)
    (aC : PySem.W.nsIn K mainGlobals "Words" = some (some (.ref C)))
    (pg : PySem.W.plainGet K C Str.empty = true)
    (hd : PySem.W.hasDictIn K C = true)
    (po : PySem.W.plainOver K C = true)
    (sa : PySem.W.findIn K (.ref C) "__setattr__" = some (some (.builtin "object.__setattr__")))
    (mk : PySem.W.makesIn K C = true)
    (kc : PySem.W.keepIn K (.ref C) = true)
    (nW : PySem.W.findIn K (.ref C) "words" = some none)
    (nA : PySem.W.findIn K (.ref C) "at" = some none)
    (aN : PySem.W.nsIn K mainGlobals "NoRecipe" = some (some (.ref N)))
    (xN : PySem.W.excIn K N [.type "ValueError", .type "Exception", .type "BaseException", .type "object"] "ValueError.__new__" = true)
    (kN : PySem.W.keepIn K (.ref N) = true)
    (bN : PySem.W.subIn K (.ref N) (.type "BaseException") = some true)
    (tN : PySem.W.typeIn K (.ref N) = some (.type "type"))
    (z_len : PySem.W.nsIn K mainGlobals "len" = some none)
    (z_range : PySem.W.nsIn K mainGlobals "range" = some none)
    (z_str : PySem.W.nsIn K mainGlobals "str" = some none)
    (z_all : PySem.W.nsIn K mainGlobals "all" = some none)
    (z_tuple : PySem.W.nsIn K mainGlobals "tuple" = some none)
    (z_int : PySem.W.nsIn K mainGlobals "int" = some none)
    (g1 : PySem.W.nsIn K mainGlobals "GREATEST" = some (some (.int 30 tk1)))
    (g2 : PySem.W.nsIn K mainGlobals "LETTERS" = some (some (.str "abcdefghijklmnopqrstuvwxyz" tk2)))
    (g3 : PySem.W.nsIn K mainGlobals "FIGURES" = some (some (.str "0123456789" tk3)))
    (g4 : PySem.W.nsIn K mainGlobals "OTHER_WORDS" = some (some (.str "+&|()[]" tk4)))
    (g5 : PySem.W.nsIn K mainGlobals "LONGEST_NAME" = some (some (.int 6 tk5)))
    (g6 : PySem.W.nsIn K mainGlobals "MOST_PIECES" = some (some (.int 8 tk6)))
    (g7 : PySem.W.nsIn K mainGlobals "MOST_WORDS" = some (some (.int 40 tk7)))
    (g8 : PySem.W.nsIn K mainGlobals "MOST_SIGNS" = some (some (.int 400 tk8)))
    (g9 : PySem.W.nsIn K mainGlobals "DEEPEST" = some (some (.int 2 tk9)))
    (gL : PySem.W.nsIn K mainGlobals "LEVELS" = some (some (.ref aL)))
    (lL : K.lookup aL = some ⟨.type "tuple", odL, .seq #[.str "most" tl1, .str "least" tl2, .str "sum" tl3] nL, slL⟩)
    (gS : PySem.W.nsIn K mainGlobals "SIGNS" = some (some (.ref aS)))
    (lS : K.lookup aS = some ⟨.type "dict", none, .dict esS nS, #[]⟩)
    (kS : PySem.W.KeysLit w.params esS.toList)
    (s1 : PySem.W.nsIn K aS "sum" = some (some (.str "+" tg1)))
    (s2 : PySem.W.nsIn K aS "least" = some (some (.str "&" tg2)))
    (s3 : PySem.W.nsIn K aS "most" = some (some (.str "|" tg3)))
    (z_isi : PySem.W.nsIn K mainGlobals "isinstance" = some none)
    (z_bool : PySem.W.nsIn K mainGlobals "bool" = some none)
    (z_min : PySem.W.nsIn K mainGlobals "min" = some none)
    (z_max : PySem.W.nsIn K mainGlobals "max" = some none)
    (z_sum : PySem.W.nsIn K mainGlobals "sum" = some none)
    (lC : K.lookup cL = some ⟨.type "code", odC, .fields vsC, slC⟩)
    (eP : vsC[11]? = some (.ref PL))
    (tP : PySem.W.codeHdIn K cL PL = true)
    (nP : K.lookup PL = none)
    (iP : PL ∈ ts)
    : LamX.LawAtS l w K CX0 28 63 "_law_script" mg fa h := by
  have e := hfa.symm.trans (PySem.W.mg_of X G a_law)
  cases e
  have F_number_piece := fun_mk (st := s_number_piece) l_number_piece c_number_piece k_number_piece
  have b_number_piece := F_number_piece.binds (ps := ["number"]) fun _ _ _ _ _ _ us hl => match us, hl with | [_], _ => rfl
  have F_name_piece := fun_mk (st := s_name_piece) l_name_piece c_name_piece k_name_piece
  have b_name_piece := F_name_piece.binds (ps := ["name"]) fun _ _ _ _ _ _ us hl => match us, hl with | [_], _ => rfl
  have F_gate_piece := fun_mk (st := s_gate_piece) l_gate_piece c_gate_piece k_gate_piece
  have b_gate_piece := F_gate_piece.binds (ps := ["name", "bound", "piece"]) fun _ _ _ _ _ _ us hl => match us, hl with | [_, _, _], _ => rfl
  have F_joined_piece := fun_mk (st := s_joined_piece) l_joined_piece c_joined_piece k_joined_piece
  have b_joined_piece := F_joined_piece.binds (ps := ["kind", "pieces"]) fun _ _ _ _ _ _ us hl => match us, hl with | [_, _], _ => rfl
  have F_answer_of := fun_mk (st := s_answer_of) l_answer_of c_answer_of k_answer_of
  have b_answer_of := F_answer_of.binds (ps := ["recipe", "ask"]) fun _ _ _ _ _ _ us hl => match us, hl with | [_, _], _ => rfl
  have F_gate_answer := fun_mk (st := s_gate_answer) l_gate_answer c_gate_answer k_gate_answer
  have b_gate_answer := F_gate_answer.binds (ps := ["recipe", "ask"]) fun _ _ _ _ _ _ us hl => match us, hl with | [_, _], _ => rfl
  have F_least_answer := fun_mk (st := s_least_answer) l_least_answer c_least_answer k_least_answer
  have b_least_answer := F_least_answer.binds (ps := ["pieces", "ask"]) fun _ _ _ _ _ _ us hl => match us, hl with | [_, _], _ => rfl
  have F_Words_init := fun_mk (st := s_Words_init) l_Words_init c_Words_init k_Words_init
  have b_Words_init := F_Words_init.binds (ps := ["self", "words"]) fun _ _ _ _ _ _ us hl => match us, hl with | [_, _], _ => rfl
  have F_Words_ahead := fun_mk (st := s_Words_ahead) l_Words_ahead c_Words_ahead k_Words_ahead
  have b_Words_ahead := F_Words_ahead.binds (ps := ["self"]) fun _ _ _ _ _ _ us hl => match us, hl with | [_], _ => rfl
  have F_Words_taken := fun_mk (st := s_Words_taken) l_Words_taken c_Words_taken k_Words_taken
  have b_Words_taken := F_Words_taken.binds (ps := ["self"]) fun _ _ _ _ _ _ us hl => match us, hl with | [_], _ => rfl
  have F_Words_expect := fun_mk (st := s_Words_expect) l_Words_expect c_Words_expect k_Words_expect
  have b_Words_expect := F_Words_expect.binds (ps := ["self", "word"]) fun _ _ _ _ _ _ us hl => match us, hl with | [_, _], _ => rfl
  have F_read := fun_mk (st := s_read) l_read c_read k_read
  have b_read := F_read.binds (ps := ["text"]) fun _ _ _ _ _ _ us hl => match us, hl with | [_], _ => rfl
  have F_words_of := fun_mk (st := s_words_of) l_words_of c_words_of k_words_of
  have b_words_of := F_words_of.binds (ps := ["text"]) fun _ _ _ _ _ _ us hl => match us, hl with | [_], _ => rfl
  have F_kind_of := fun_mk (st := s_kind_of) l_kind_of c_kind_of k_kind_of
  have b_kind_of := F_kind_of.binds (ps := ["sign"]) fun _ _ _ _ _ _ us hl => match us, hl with | [_], _ => rfl
  have F_read_level := fun_mk (st := s_read_level) l_read_level c_read_level k_read_level
  have b_read_level := F_read_level.binds (ps := ["reader", "level", "deep"]) fun _ _ _ _ _ _ us hl => match us, hl with | [_, _, _], _ => rfl
  have F_read_piece := fun_mk (st := s_read_piece) l_read_piece c_read_piece k_read_piece
  have b_read_piece := F_read_piece.binds (ps := ["reader", "deep"]) fun _ _ _ _ _ _ us hl => match us, hl with | [_, _], _ => rfl
  have F_read_gate := fun_mk (st := s_read_gate) l_read_gate c_read_gate k_read_gate
  have b_read_gate := F_read_gate.binds (ps := ["reader", "deep"]) fun _ _ _ _ _ _ us hl => match us, hl with | [_, _], _ => rfl
  have F_is_name := fun_mk (st := s_is_name) l_is_name c_is_name k_is_name
  have b_is_name := F_is_name.binds (ps := ["text"]) fun _ _ _ _ _ _ us hl => match us, hl with | [_], _ => rfl
  have F_number_of := fun_mk (st := s_number_of) l_number_of c_number_of k_number_of
  have b_number_of := F_number_of.binds (ps := ["word", "lowest"]) fun _ _ _ _ _ _ us hl => match us, hl with | [_, _], _ => rfl
  have F_law_cell_at := fun_mk (st := s_law_cell_at) l_law_cell_at c_law_cell_at k_law_cell_at
  have b_law_cell_at := F_law_cell_at.binds (ps := ["_law_script", "_law_k"]) fun _ _ _ _ _ _ us hl => match us, hl with | [_, _], _ => rfl
  have F_law_dice := fun_mk (st := s_law_dice) l_law_dice c_law_dice k_law_dice
  have b_law_dice := F_law_dice.binds (ps := ["_law_cell"]) fun _ _ _ _ _ _ us hl => match us, hl with | [_], _ => rfl
  have F_law_roll := fun_mk (st := s_law_roll) l_law_roll c_law_roll k_law_roll
  have b_law_roll := F_law_roll.binds (ps := ["_law_dice_here", "_law_most"]) fun _ _ _ _ _ _ us hl => match us, hl with | [_, _], _ => rfl
  have F_law_names := fun_mk (st := s_law_names) l_law_names c_law_names k_law_names
  have b_law_names := F_law_names.binds (ps := ["_law_cell", "_law_many"]) fun _ _ _ _ _ _ us hl => match us, hl with | [_, _], _ => rfl
  have F_law_tree := fun_mk (st := s_law_tree) l_law_tree c_law_tree k_law_tree
  have b_law_tree := F_law_tree.binds (ps := ["_law_dice_here", "_law_names_here", "_law_deep"]) fun _ _ _ _ _ _ us hl => match us, hl with | [_, _, _], _ => rfl
  have F_law_answer := fun_mk (st := s_law_answer) l_law_answer c_law_answer k_law_answer
  have b_law_answer := F_law_answer.binds (ps := ["_law_tree_here", "_law_ask"]) fun _ _ _ _ _ _ us hl => match us, hl with | [_, _], _ => rfl
  have F_law_written := fun_mk (st := s_law_written) l_law_written c_law_written k_law_written
  have b_law_written := F_law_written.binds (ps := ["_law_tree_here", "_law_firm"]) fun _ _ _ _ _ _ us hl => match us, hl with | [_, _], _ => rfl
  have F_law_whole := fun_mk (st := s_law_whole) l_law_whole c_law_whole k_law_whole
  have b_law_whole := F_law_whole.binds (ps := ["_law_found"]) fun _ _ _ _ _ _ us hl => match us, hl with | [_], _ => rfl
  have F_law_given := fun_mk (st := s_law_given) l_law_given c_law_given k_law_given
  have b_law_given := F_law_given.binds (ps := ["_law_rows", "_law_asked", "_law_name"]) fun _ _ _ _ _ _ us hl => match us, hl with | [_, _, _], _ => rfl
  have F_law := fun_mk (st := s_law) l_law c_law k_law
  have b_law := F_law.binds (ps := ["_law_script"]) fun _ _ _ _ _ _ us hl => match us, hl with | [_], _ => rfl
  have T : Txt K mg C N := ⟨⟨pg, hd, po, sa⟩, nW, nA, PySem.W.mg_of X G aC, xN, PySem.W.mg_of X G aN, kN, bN, tN, PySem.W.mg_none_of X G z_len, PySem.W.mg_none_of X G z_range, PySem.W.mg_none_of X G z_str, PySem.W.mg_none_of X G z_all, PySem.W.mg_none_of X G z_tuple,
    ⟨_, PySem.W.mg_of X G g1⟩, ⟨_, PySem.W.mg_of X G g2⟩, ⟨_, PySem.W.mg_of X G g3⟩, ⟨_, PySem.W.mg_of X G g4⟩, ⟨_, PySem.W.mg_of X G g5⟩, ⟨_, PySem.W.mg_of X G g6⟩, ⟨_, PySem.W.mg_of X G g7⟩, ⟨_, PySem.W.mg_of X G g8⟩, ⟨_, PySem.W.mg_of X G g9⟩⟩
  have TC : TxtC K mg w := ⟨⟨aL, PySem.W.mg_of X G gL, fun H => .inr ⟨_, _, _, lL, rfl, rfl, (by show 3 ≤ sizeLine; decide), .cons ⟨_, rfl⟩ (.cons ⟨_, rfl⟩ (.cons ⟨_, rfl⟩ .nil))⟩⟩,
    ⟨aS, PySem.W.mg_of X G gS, fun k => by
      cases k
      · exact ⟨esS, nS, _, lS, kS, s1, ⟨_, rfl⟩⟩
      · exact ⟨esS, nS, _, lS, kS, s2, ⟨_, rfl⟩⟩
      · exact ⟨esS, nS, _, lS, kS, s3, ⟨_, rfl⟩⟩⟩⟩
  have TL : TxtL K mg := ⟨PySem.W.mg_none_of X G z_len, PySem.W.mg_none_of X G z_int, PySem.W.mg_none_of X G z_range, PySem.W.mg_none_of X G z_str⟩
  refine ⟨PySem.W.fnOf "law" "law" (defArgs s_law) (defBody s_law) (defScope s_law) .none kV_law dc_law pm_law an_law (.ref cL) ct_law, [(cL, PL)], spLawT K PL, (fun p hp => by rw [List.mem_singleton.mp hp]; exact hts PL iP), (fun p hp => by rw [List.mem_singleton.mp hp]; exact nP), (fun p hp => by rw [List.mem_singleton.mp hp]; exact PySem.W.codeHd_of_K X tP), (fun s v => .of_eq rfl),
    (fun H a ns hl _ hT hS => ⟨a, ns, rfl, hS, hl, hT (cL, PL) List.mem_cons_self, fun _ => rfl⟩), fun base _ _ hTB => ?_⟩
  have GA : FnOk l.prog w K mg base CX0 1 f_Words_ahead _ ["self"] (spAhead C) := ok_ahead F_Words_ahead T
  have GT : FnOk l.prog w K mg base CX0 2 f_Words_taken _ ["self"] (spTaken C) := ok_taken F_Words_taken T F_Words_ahead b_Words_ahead ⟨a_Words_ahead, i_Words_ahead, k_Words_ahead⟩
  have GX : FnOk l.prog w K mg base (L2.CX l.prog w) 3 f_Words_expect _ ["self", "word"] (spExpect C N) := ok_expect F_Words_expect T GT b_Words_taken ⟨a_Words_taken, i_Words_taken, k_Words_taken⟩
  have LO : Low l.prog w K mg base C N := ⟨⟨_, _, GA, b_Words_ahead, ⟨a_Words_ahead, i_Words_ahead, k_Words_ahead⟩⟩, ⟨_, _, GT, b_Words_taken, ⟨a_Words_taken, i_Words_taken, k_Words_taken⟩⟩, ⟨_, _, GX, b_Words_expect, ⟨a_Words_expect, i_Words_expect, k_Words_expect⟩⟩,
    ⟨_, _, ok_name F_is_name T, b_is_name, k_is_name, PySem.W.mg_of X G a_is_name⟩, ⟨_, _, ok_number F_number_of T, b_number_of, k_number_of, PySem.W.mg_of X G a_number_of⟩,
    ⟨_, _, ok_numP F_number_piece, b_number_piece, k_number_piece, PySem.W.mg_of X G a_number_piece⟩, ⟨_, _, ok_nameP F_name_piece, b_name_piece, k_name_piece, PySem.W.mg_of X G a_name_piece⟩,
    ⟨_, _, ok_gateP F_gate_piece, b_gate_piece, k_gate_piece, PySem.W.mg_of X G a_gate_piece⟩, ⟨_, _, ok_joinP F_joined_piece T.tup, b_joined_piece, k_joined_piece, PySem.W.mg_of X G a_joined_piece⟩⟩
  have RE : Rec K mg f_read_level f_read_piece f_read_gate _ _ _ := ⟨F_read_level, F_read_piece, F_read_gate, b_read_level, b_read_piece, b_read_gate, PySem.W.mg_of X G a_read_level, PySem.W.mg_of X G a_read_piece, PySem.W.mg_of X G a_read_gate⟩
  have GK : FnOk l.prog w K mg base (L2.CX l.prog w) 1 f_kind_of _ ["sign"] (spKind N) := ok_kind F_kind_of T
  have GW : FnOk l.prog w K mg base (L2.CX l.prog w) 2 f_words_of _ ["text"] (spWords N) := ok_words F_words_of T GK b_kind_of k_kind_of (PySem.W.mg_of X G a_kind_of)
  have GI : FnOk l.prog w K mg base CX0 1 f_Words_init _ ["self", "words"] (spInit C) := ok_Winit F_Words_init T
  have GR : FnOk l.prog w K mg base (L2.CX l.prog w) 27 f_read _ ["text"] (spRead N) := ok_read F_read T TC LO RE ⟨mk, a_Words_init, i_Words_init, kc⟩ GI b_Words_init GW b_words_of k_words_of (PySem.W.mg_of X G a_words_of)
  have Gro : FnOk l.prog w K mg base CX0 1 f_law_roll _ ["_law_dice_here", "_law_most"] spRoll := ok_roll F_law_roll
  have Gt0 : FnOk l.prog w K mg base CX0 2 f_law_tree _ ["_law_dice_here", "_law_names_here", "_law_deep"] (spTree K 0) := ok_tree0 F_law_tree TL Gro b_law_roll k_law_roll (PySem.W.mg_of X G a_law_roll)
  have Gt1 : FnOk l.prog w K mg base CX0 3 f_law_tree _ ["_law_dice_here", "_law_names_here", "_law_deep"] (spTree K 1) := ok_treeS (by decide) F_law_tree TL Gro b_law_roll k_law_roll (PySem.W.mg_of X G a_law_roll) Gt0 b_law_tree (PySem.W.mg_of X G a_law_tree)
  have Gt2 : FnOk l.prog w K mg base CX0 4 f_law_tree _ ["_law_dice_here", "_law_names_here", "_law_deep"] (spTree K 2) := ok_treeS (by decide) F_law_tree TL Gro b_law_roll k_law_roll (PySem.W.mg_of X G a_law_roll) Gt1 b_law_tree (PySem.W.mg_of X G a_law_tree)
  have Gw0 : FnOk l.prog w K mg base CX0 1 f_law_written _ ["_law_tree_here", "_law_firm"] (spWritten 0) := ok_written0 F_law_written TL
  have Gw1 : FnOk l.prog w K mg base CX0 2 f_law_written _ ["_law_tree_here", "_law_firm"] (spWritten 1) := ok_writtenS (by decide) (by decide) F_law_written TL Gw0 b_law_written (PySem.W.mg_of X G a_law_written)
  have Gw2 : FnOk l.prog w K mg base CX0 3 f_law_written _ ["_law_tree_here", "_law_firm"] (spWritten 2) := ok_writtenS (by decide) (by decide) F_law_written TL Gw1 b_law_written (PySem.W.mg_of X G a_law_written)
  have TA' : TxtA mg := ⟨PySem.W.mg_none_of X G z_min, PySem.W.mg_none_of X G z_max, PySem.W.mg_none_of X G z_sum, ⟨_, PySem.W.mg_of X G g1⟩⟩
  have AN : AnD K mg f_answer_of f_gate_answer f_least_answer _ _ _ := ⟨F_answer_of, F_gate_answer, F_least_answer, b_answer_of, b_gate_answer, b_least_answer, PySem.W.mg_of X G a_answer_of, PySem.W.mg_of X G a_gate_answer, PySem.W.mg_of X G a_least_answer⟩
  have LN : LnD K mg f_law_answer _ := ⟨F_law_answer, b_law_answer, PySem.W.mg_of X G a_law_answer⟩
  have Gwh : FnOk l.prog w K mg base CX0 1 f_law_whole _ ["_law_found"] spWhole := ok_whole F_law_whole (PySem.W.mg_none_of X G z_isi) (PySem.W.mg_none_of X G z_int) (PySem.W.mg_none_of X G z_bool)
  exact ok_law l_law c_law TL TA' (hTB (cL, PL) List.mem_cons_self) ⟨ok_cell F_law_cell_at TL, b_law_cell_at, k_law_cell_at, PySem.W.mg_of X G a_law_cell_at⟩ ⟨ok_dice F_law_dice TL, b_law_dice, k_law_dice, PySem.W.mg_of X G a_law_dice⟩ ⟨ok_names F_law_names TL, b_law_names, k_law_names, PySem.W.mg_of X G a_law_names⟩
    ⟨Gt2, b_law_tree, k_law_tree, PySem.W.mg_of X G a_law_tree⟩ ⟨Gw2, b_law_written, k_law_written, PySem.W.mg_of X G a_law_written⟩ ⟨GR, b_read, k_read, PySem.W.mg_of X G a_read⟩ ⟨Gwh, b_law_whole, k_law_whole, PySem.W.mg_of X G a_law_whole⟩ AN LN ⟨F_law_given, b_law_given, PySem.W.mg_of X G a_law_given⟩
theorem walk {l : PySem.W.OpenLaw} {q : Program} {loose : List Str} {XP : (Str → Option Value) → Heap → Prop} {YP : World → Heap → Prop} {d : DefRec} {K : Params → PySem.W.Frag} (hn : l.most = some 63) (hdf : d.params.defaults = [])
    (hY : ∀ (w : World) (h : Heap), YP w h → (K w.params).In h)
    (F : ∀ (w : World) (mg : Str → Option Value) (fa : Addr) (h : Heap), YP w h → (K w.params).In h → h.Ns mainGlobals mg → mg d.name = some (.ref fa) → LamX.LawAtS l w (K w.params) CX0 28 63 "_law_script" mg fa h) :
    PySem.W.WalkO q loose XP YP l.row.toRowW d [] (fun f vs => PySem.call f vs) :=
  LamX.walk_ofTs (n := 63) (k := 28) (x := "_law_script") (K := K) (CX := fun _ => CX0) hn (by decide) hdf ⟨rfl, by decide, by decide⟩ hY F fun _ _ _ _ _ z => z
end Aw
open PySem PySem.W PyProof.Rows
set_option maxRecDepth 100000 in
set_option maxHeartbeats 0 in
theorem PySem.Challenge.cw_anewhall_k02_asked_in_order_holds : PySem.Challenge.rw_anewhall_k02_asked_in_order.Holds := by
  w_on; o_law; k_head; (case hw => w_witness2)
  k_fill
  refine Aw.walk (l := PySem.Challenge.rw_anewhall_k02_asked_in_order) rfl rfl (fun w h Y => PySem.W.km_in_of Y) ?F
  case F =>
    intro w mg fa h Y KX G hmg
    refine' Aw.all_mk KX G hmg (PySem.W.km_tabs_of Y) ?a_number_piece ?l_number_piece ?c_number_piece ?k_number_piece ?a_name_piece ?l_name_piece ?c_name_piece ?k_name_piece ?a_gate_piece ?l_gate_piece ?c_gate_piece ?k_gate_piece ?a_joined_piece ?l_joined_piece ?c_joined_piece ?k_joined_piece ?a_answer_of ?l_answer_of ?c_answer_of ?k_answer_of ?a_gate_answer ?l_gate_answer ?c_gate_answer ?k_gate_answer ?a_least_answer ?l_least_answer ?c_least_answer ?k_least_answer ?a_Words_init ?i_Words_init ?l_Words_init ?c_Words_init ?k_Words_init ?a_Words_ahead ?i_Words_ahead ?l_Words_ahead ?c_Words_ahead ?k_Words_ahead ?a_Words_taken ?i_Words_taken ?l_Words_taken ?c_Words_taken ?k_Words_taken ?a_Words_expect ?i_Words_expect ?l_Words_expect ?c_Words_expect ?k_Words_expect ?a_read ?l_read ?c_read ?k_read ?a_words_of ?l_words_of ?c_words_of ?k_words_of ?a_kind_of ?l_kind_of ?c_kind_of ?k_kind_of ?a_read_level ?l_read_level ?c_read_level ?k_read_level ?a_read_piece ?l_read_piece ?c_read_piece ?k_read_piece ?a_read_gate ?l_read_gate ?c_read_gate ?k_read_gate ?a_is_name ?l_is_name ?c_is_name ?k_is_name ?a_number_of ?l_number_of ?c_number_of ?k_number_of ?a_law_cell_at ?l_law_cell_at ?c_law_cell_at ?k_law_cell_at ?a_law_dice ?l_law_dice ?c_law_dice ?k_law_dice ?a_law_roll ?l_law_roll ?c_law_roll ?k_law_roll ?a_law_names ?l_law_names ?c_law_names ?k_law_names ?a_law_tree ?l_law_tree ?c_law_tree ?k_law_tree ?a_law_answer ?l_law_answer ?c_law_answer ?k_law_answer ?a_law_written ?l_law_written ?c_law_written ?k_law_written ?a_law_whole ?l_law_whole ?c_law_whole ?k_law_whole ?a_law_given ?l_law_given ?c_law_given ?k_law_given ?a_law ?l_law ?c_law ?k_law ?aC ?pg ?hd ?po ?sa ?mk ?kc ?nW ?nA ?aN ?xN ?kN ?bN ?tN ?z_len ?z_range ?z_str ?z_all ?z_tuple ?z_int ?g1 ?g2 ?g3 ?g4 ?g5 ?g6 ?g7 ?g8 ?g9 ?gL ?lL ?gS ?lS ?kS ?s1 ?s2 ?s3 ?z_isi ?z_bool ?z_min ?z_max ?z_sum ?lC ?eP ?tP ?nP ?iP
    (case a_law => k_is)
    (case l_law => k_is)
    (case aC => k_is)
    (case pg => k_is)
    (case hd => k_is)
    (case po => k_is)
    (case sa => k_is)
    (case mk => k_is)
    (case kc => k_is)
    (case nW => k_is)
    (case nA => k_is)
    (case aN => k_is)
    (case xN => k_exc)
    (case kN => k_is)
    (case bN => k_is)
    (case tN => k_is)
    (case z_len => k_is)
    (case z_range => k_is)
    (case z_str => k_is)
    (case z_all => k_is)
    (case z_tuple => k_is)
    (case z_int => k_is)
    (case g1 => k_is)
    (case g2 => k_is)
    (case g3 => k_is)
    (case g4 => k_is)
    (case g5 => k_is)
    (case g6 => k_is)
    (case g7 => k_is)
    (case g8 => k_is)
    (case g9 => k_is)
    (case gL => k_is)
    (case lL => k_is)
    (case gS => k_is)
    (case lS => k_is)
    (case kS => k_keys)
    (case s1 => k_is)
    (case s2 => k_is)
    (case s3 => k_is)
    (case z_isi => k_is)
    (case z_bool => k_is)
    (case z_min => k_is)
    (case z_max => k_is)
    (case z_sum => k_is)
    (case lC => k_is)
    (case eP => rfl)
    (case tP => kernel_rfl)
    (case nP => kernel_rfl)
    (case iP => k_mem)
    (case a_number_piece => k_is)
    (case l_number_piece => k_is)
    (case c_number_piece => k_is)
    (case k_number_piece => k_is)
    (case a_name_piece => k_is)
    (case l_name_piece => k_is)
    (case c_name_piece => k_is)
    (case k_name_piece => k_is)
    (case a_gate_piece => k_is)
    (case l_gate_piece => k_is)
    (case c_gate_piece => k_is)
    (case k_gate_piece => k_is)
    (case a_joined_piece => k_is)
    (case l_joined_piece => k_is)
    (case c_joined_piece => k_is)
    (case k_joined_piece => k_is)
    (case a_answer_of => k_is)
    (case l_answer_of => k_is)
    (case c_answer_of => k_is)
    (case k_answer_of => k_is)
    (case a_gate_answer => k_is)
    (case l_gate_answer => k_is)
    (case c_gate_answer => k_is)
    (case k_gate_answer => k_is)
    (case a_least_answer => k_is)
    (case l_least_answer => k_is)
    (case c_least_answer => k_is)
    (case k_least_answer => k_is)
    (case a_Words_init => k_is)
    (case i_Words_init => k_is)
    (case l_Words_init => k_is)
    (case c_Words_init => k_is)
    (case k_Words_init => k_is)
    (case a_Words_ahead => k_is)
    (case i_Words_ahead => k_is)
    (case l_Words_ahead => k_is)
    (case c_Words_ahead => k_is)
    (case k_Words_ahead => k_is)
    (case a_Words_taken => k_is)
    (case i_Words_taken => k_is)
    (case l_Words_taken => k_is)
    (case c_Words_taken => k_is)
    (case k_Words_taken => k_is)
    (case a_Words_expect => k_is)
    (case i_Words_expect => k_is)
    (case l_Words_expect => k_is)
    (case c_Words_expect => k_is)
    (case k_Words_expect => k_is)
    (case a_read => k_is)
    (case l_read => k_is)
    (case c_read => k_is)
    (case k_read => k_is)
    (case a_words_of => k_is)
    (case l_words_of => k_is)
    (case c_words_of => k_is)
    (case k_words_of => k_is)
    (case a_kind_of => k_is)
    (case l_kind_of => k_is)
    (case c_kind_of => k_is)
    (case k_kind_of => k_is)
    (case a_read_level => k_is)
    (case l_read_level => k_is)
    (case c_read_level => k_is)
    (case k_read_level => k_is)
    (case a_read_piece => k_is)
    (case l_read_piece => k_is)
    (case c_read_piece => k_is)
    (case k_read_piece => k_is)
    (case a_read_gate => k_is)
    (case l_read_gate => k_is)
    (case c_read_gate => k_is)
    (case k_read_gate => k_is)
    (case a_is_name => k_is)
    (case l_is_name => k_is)
    (case c_is_name => k_is)
    (case k_is_name => k_is)
    (case a_number_of => k_is)
    (case l_number_of => k_is)
    (case c_number_of => k_is)
    (case k_number_of => k_is)
    (case a_law_cell_at => k_is)
    (case l_law_cell_at => k_is)
    (case c_law_cell_at => k_is)
    (case k_law_cell_at => k_is)
    (case a_law_dice => k_is)
    (case l_law_dice => k_is)
    (case c_law_dice => k_is)
    (case k_law_dice => k_is)
    (case a_law_roll => k_is)
    (case l_law_roll => k_is)
    (case c_law_roll => k_is)
    (case k_law_roll => k_is)
    (case a_law_names => k_is)
    (case l_law_names => k_is)
    (case c_law_names => k_is)
    (case k_law_names => k_is)
    (case a_law_tree => k_is)
    (case l_law_tree => k_is)
    (case c_law_tree => k_is)
    (case k_law_tree => k_is)
    (case a_law_answer => k_is)
    (case l_law_answer => k_is)
    (case c_law_answer => k_is)
    (case k_law_answer => k_is)
    (case a_law_written => k_is)
    (case l_law_written => k_is)
    (case c_law_written => k_is)
    (case k_law_written => k_is)
    (case a_law_whole => k_is)
    (case l_law_whole => k_is)
    (case c_law_whole => k_is)
    (case k_law_whole => k_is)
    (case a_law_given => k_is)
    (case l_law_given => k_is)
    (case c_law_given => k_is)
    (case k_law_given => k_is)
    (case c_law => k_is)
    (case k_law => k_is)

