import PyProof.Rows.All
import Wide.All
import OpenK.AllK
import Wide.FinOn
import HandS.ForMost
import HandS.Exc
import HandS.TryOnly
import HandS.ExcOwn
import HandS.WordsExc
import HandS.Wide
import HandS.FStr
import HandS.RaiseMore
import HandS.WrittenGet
import HandS.Walk
import HandS.Steps
import HandS.Style
import HandS.Flow
import HandS.Conv
import HandS.DictComp
import HandS.IsInst
import HandS.DeepEq
import PySem.Challenge.RW_anewhall_k06_where_names_lead
set_option Elab.async false
set_option linter.all false
set_option maxRecDepth 100000
namespace Aw
open PySem L2
/-! ### the mirror: trees, words, the parser, the lexer -/
inductive Kd where
  | sum | least | most
  deriving DecidableEq
def Kd.nm : Kd → Str
  | .sum => "sum"
  | .least => "least"
  | .most => "most"
def Kd.sg : Kd → Str
  | .sum => "+"
  | .least => "&"
  | .most => "|"
inductive T where
  | num (n : Int)
  | name (s : Str)
  | gate (s : Str) (b : Int) (t : T)
  | join (k : Kd) (ts : List T)
/-- a whole number's text -/
def tx (i : Int) : Str := toString i
def wd (ws : List Str) (i : Nat) : Str := ws.getD i Str.empty
def LET : List Nat := (("abcdefghijklmnopqrstuvwxyz" : Str)).cps.toList
def FIG : List Nat := (("0123456789" : Str)).cps.toList
def OTH : List Nat := (("+&|()[]" : Str)).cps.toList
def nameM (s : Str) : Bool := decide (1 ≤ s.length ∧ s.length ≤ 6) && s.cps.toList.all fun c => decide (c ∈ LET)
def numM (lo : Int) (w : Str) : Option Int := ((List.range (31 - lo).toNat).find? fun i => decide (w = tx (lo + (i : Nat)))).map fun i => lo + (i : Nat)
section
variable (ws : List Str)
def chainM (f : Nat → Option (T × Nat)) (sg : Str) : Nat → List T → Nat → Option (List T × Nat)
  | 0, _, _ => none
  | n + 1, ts, j => if wd ws j = sg then
      match f (j + 1) with
      | none => none
      | some (t, j') => chainM f sg n (ts ++ [t]) j'
    else some (ts, j)
/-- what the chain of pieces comes to -/
def joinM (k : Kd) (ts : List T) : Option T := if 8 < ts.length then none else
  match ts with
  | [t] => some t
  | _ => some (.join k ts)
def levelM (f : Nat → Option (T × Nat)) : List Kd → Nat → Option (T × Nat)
  | [], i => f i
  | k :: ks, i =>
    match levelM f ks i with
    | none => none
    | some (t, j) =>
      match chainM ws (levelM f ks) k.sg (ws.length + 1) [t] j with
      | none => none
      | some (ts, j') => (joinM k ts).map fun t => (t, j')
def kinds : List Kd := [.most, .least, .sum]
def gateM (f : Nat → Option (T × Nat)) (i : Nat) : Option (T × Nat) :=
  if nameM (wd ws i) = true then
    match numM 1 (wd ws (i + 1)) with
    | none => none
    | some b => if wd ws (i + 2) = "]" then (f (i + 3)).map fun r => (.gate (wd ws i) b r.1, r.2) else none
  else none
def pieceM : Nat → Nat → Option (T × Nat)
  | 0, _ => none
  | d + 1, i =>
    if wd ws i = "(" then
      match levelM ws (pieceM d) kinds (i + 1) with
      | none => none
      | some (t, j) => if wd ws j = ")" then some (t, j + 1) else none
    else if wd ws i = "[" then gateM ws (pieceM d) (i + 1)
    else if nameM (wd ws i) = true then some (.name (wd ws i), i + 1)
    else (numM 0 (wd ws i)).map fun n => (.num n, i + 1)
end
inductive Kn where
  | letter | figure | other | blank
  deriving DecidableEq
def Kn.nm : Kn → Str
  | .letter => "letter"
  | .figure => "figure"
  | .other => "other"
  | .blank => "blank"
def sg1 (c : Nat) : Str := ⟨#[c]⟩
def kindM (c : Nat) : Option Kn :=
  if c ∈ LET then some .letter else if c ∈ FIG then some .figure else if c ∈ OTH then some .other else if sg1 c = " " then some .blank else none
def addLast (ws : List Str) (c : Nat) : List Str := ws.set (ws.length - 1) (wd ws (ws.length - 1) ++ sg1 c)
def lexStep (st : List Str × Kn) (c : Nat) (k : Kn) : List Str :=
  if k = st.2 ∧ (k = .letter ∨ k = .figure) then addLast st.1 c else if k ≠ .blank then st.1 ++ [sg1 c] else st.1
def lexGo : List Nat → List Str → Kn → Option (List Str)
  | [], ws, _ => some ws
  | c :: r, ws, b =>
    match kindM c with
    | none => none
    | some k => lexGo r (lexStep (ws, b) c k) k
def lexM (z : Str) : Option (List Str) := lexGo z.cps.toList [] .blank
def readM (z : Str) : Option T :=
  if 400 < z.length then none else
  match lexM z with
  | none => none
  | some ws => if 40 < ws.length then none else
    match levelM ws (pieceM ws 3) kinds 0 with
    | none => none
    | some (t, j) => if wd ws j = Str.empty then some t else none
/-! ### the heap -/
/-- all but what stands at p is as it was -/
def But (p : Addr) (H H' : Hp) : Prop := ∀ b o, H b = some o → b ≠ p → H' b = some o
theorem But.refl (p : Addr) (H : Hp) : But p H H := fun _ _ h _ => h
theorem But.trans {p : Addr} {H H1 H2 : Hp} (a : But p H H1) (b : But p H1 H2) : But p H H2 := fun c o h hc => b c o (a c o h hc) hc
theorem But.of_same {p : Addr} {H H1 : Hp} (a : Same H H1) : But p H H1 := fun c o h _ => a c o h
theorem same_new {H : Hp} {p : Addr} (h : H p = none) (o : HO) : Same H (upd H p o) := fun b u q => by rw [upd_ne (ne_of_none q h)]; exact q
theorem same_upd {H H1 : Hp} {D : Addr} (s : Same H H1) (hD : H D = none) (o : HO) : Same H (upd H1 D o) := fun b u q => by rw [upd_ne (ne_of_none q hD)]; exact s b u q
theorem take_more {α : Type} : ∀ {l : List α} {i : Nat} {x : α}, l[i]? = some x → l.take (i + 1) = l.take i ++ [x]
  | [], i, x, h => by simp at h
  | a :: l, 0, x, h => by
    have e : a = x := Option.some.inj h
    subst e
    rfl
  | a :: l, i + 1, x, h => by
    have ih := take_more (l := l) (i := i) (x := x) h
    show a :: l.take (i + 1) = a :: l.take i ++ [x]
    rw [ih]
    rfl
theorem But.upd {p : Addr} {H : Hp} (o : HO) : But p H (upd H p o) := fun b u q hb => by rw [upd_ne hb]; exact q
mutual
inductive TA (H : Hp) : V → T → Prop
  | num {a : Addr} {n : Int} : H a = some (.tup [.str "number", .int n]) → TA H (.ref a) (.num n)
  | name {a : Addr} {s : Str} : H a = some (.tup [.str "name", .str s]) → TA H (.ref a) (.name s)
  | gate {a : Addr} {s : Str} {b : Int} {v : V} {t : T} : H a = some (.tup [.str "gate", .str s, .int b, v]) → TA H v t → TA H (.ref a) (.gate s b t)
  | join {a p : Addr} {k : Kd} {vs : List V} {ts : List T} : H a = some (.tup [.str k.nm, .ref p]) → H p = some (.tup vs) → TAs H vs ts → TA H (.ref a) (.join k ts)
inductive TAs (H : Hp) : List V → List T → Prop
  | nil : TAs H [] []
  | cons {v : V} {t : T} {vs : List V} {ts : List T} : TA H v t → TAs H vs ts → TAs H (v :: vs) (t :: ts)
end
/-- every tuple stays -/
def Tups (H H' : Hp) : Prop := ∀ b xs, H b = some (.tup xs) → H' b = some (.tup xs)
theorem Tups.of_same {H H' : Hp} (h : Same H H') : Tups H H' := fun b _ q => h b _ q
theorem Tups.of_but {H H' : Hp} {p : Addr} (h : But p H H') (hp : ∀ xs, H p ≠ some (.tup xs)) : Tups H H' := fun b xs q => h b _ q fun e => hp xs (e ▸ q)
mutual
theorem TA.mono {H H' : Hp} (h : Tups H H') : ∀ {v : V} {t : T}, TA H v t → TA H' v t
  | _, _, .num e => .num (h _ _ e)
  | _, _, .name e => .name (h _ _ e)
  | _, _, .gate e q => .gate (h _ _ e) (TA.mono h q)
  | _, _, .join e e2 q => .join (h _ _ e) (h _ _ e2) (TAs.mono h q)
theorem TAs.mono {H H' : Hp} (h : Tups H H') : ∀ {v : List V} {t : List T}, TAs H v t → TAs H' v t
  | _, _, .nil => .nil
  | _, _, .cons a b => .cons (TA.mono h a) (TAs.mono h b)
end
theorem TAs.length {H : Hp} {vs : List V} {ts : List T} (h : TAs H vs ts) : vs.length = ts.length := by
  induction vs generalizing ts with
  | nil => cases h; rfl
  | cons v r ih => cases h with | cons a b => rw [List.length_cons, List.length_cons, ih b]
theorem TAs.snoc {H : Hp} {v : V} {t : T} (h1 : TA H v t) : ∀ {vs : List V} {ts : List T}, TAs H vs ts → TAs H (vs ++ [v]) (ts ++ [t])
  | _, _, .nil => .cons h1 .nil
  | _, _, .cons a b => .cons a (TAs.snoc h1 b)
theorem TAs.get {H : Hp} : ∀ {vs : List V} {ts : List T} {i : Nat} {v : V}, TAs H vs ts → vs[i]? = some v → ∃ t, ts[i]? = some t ∧ TA H v t
  | _, _, i, v, .nil, h => by simp at h
  | _, _, 0, v, .cons a b, h => ⟨_, rfl, by have e := Option.some.inj h; exact e ▸ a⟩
  | _, _, i + 1, v, .cons a b, h => by
    obtain ⟨t, h1, h2⟩ := TAs.get b (i := i) (v := v) (by simpa using h)
    exact ⟨t, by simpa using h1, h2⟩
/-! ### the reader of words -/
def rflds (l : Addr) (i : Nat) : List (Str × V) := putF "at" (.int i) (putF "words" (.ref l) [])
theorem wa : ¬ (("words" : Str) = "at") := by decide +kernel
theorem rflds_words (l : Addr) (i : Nat) : (rflds l i).lookup ("words" : Str) = some (.ref l) := by
  unfold rflds
  rw [lookup_putF, if_neg wa, lookup_putF, if_pos rfl]
theorem rflds_at (l : Addr) (i : Nat) : (rflds l i).lookup ("at" : Str) = some (.int i) := by
  unfold rflds
  rw [lookup_putF, if_pos rfl]
theorem rflds_no (l : Addr) (i : Nat) {m : Str} (h1 : ¬ m = "at") (h2 : ¬ m = "words") : (rflds l i).lookup m = none := by
  unfold rflds
  rw [lookup_putF, if_neg h1, lookup_putF, if_neg h2]
  all_goals rfl
theorem rflds_eq (l : Addr) (i : Nat) : rflds l i = ([("words", V.ref l), ("at", V.int i)] : List (Str × V)) := by
  show (if ("words" : Str) = "at" then [(("words" : Str), V.int i)] else (("words" : Str), V.ref l) :: putF "at" (V.int i) []) = ([("words", V.ref l), ("at", V.int i)] : List (Str × V))
  rw [if_neg wa]
  all_goals rfl
theorem rflds_put (l : Addr) (i : Nat) {z : Int} (hz : z = ((i + 1 : Nat) : Int)) : putF "at" (.int z) (rflds l i) = rflds l (i + 1) := by
  subst hz
  rw [rflds_eq, rflds_eq]
  show (if ("words" : Str) = "at" then _ else (("words" : Str), V.ref l) :: (if ("at" : Str) = "at" then [(("at" : Str), V.int ((i + 1 : Nat) : Int))] else _)) = ([("words", V.ref l), ("at", V.int ((i + 1 : Nat) : Int))] : List (Str × V))
  rw [if_neg wa, if_pos rfl]
structure RdAt (C p l : Addr) (ws : List Str) (i : Nat) (H : Hp) : Prop where
  ob : ∃ dx, H p = some (.ins C dx (rflds l i))
  ls : H l = some (.lst (ws.map V.str))
  ln : ws.length ≤ 1000
theorem RdAt.mono {C p l : Addr} {ws : List Str} {i : Nat} {H H' : Hp} (h : RdAt C p l ws i H) (s : Same H H') : RdAt C p l ws i H' := by
  obtain ⟨dx, e⟩ := h.ob
  exact ⟨⟨dx, s _ _ e⟩, s _ _ h.ls, h.ln⟩
theorem RdAt.tups {C p l : Addr} {ws : List Str} {i : Nat} {H H' : Hp} (h : RdAt C p l ws i H) (s : But p H H') : Tups H H' := by
  obtain ⟨dx, e⟩ := h.ob
  exact Tups.of_but s fun xs q => by rw [e] at q; cases q
theorem RdAt.keep {C p l : Addr} {ws : List Str} {i : Nat} {H H' : Hp} (h : RdAt C p l ws i H) (s : But p H H') {a : Addr} {xs : List V} (e : H a = some (.lst xs)) : H' a = some (.lst xs) := by
  obtain ⟨dx, e1⟩ := h.ob
  exact s _ _ e (ne_of e e1 (by intro z; cases z))
theorem RdAt.ne_new {C p l : Addr} {ws : List Str} {i : Nat} {H : Hp} (h : RdAt C p l ws i H) {a : Addr} (e : H a = none) : p ≠ a := by
  obtain ⟨dx, e1⟩ := h.ob
  exact ne_of_none e1 e
theorem wd_get {ws : List Str} {i : Nat} (h : i < ws.length) : ws[i]? = some (wd ws i) := by
  unfold wd
  rw [List.getD_eq_getElem?_getD, List.getElem?_eq_getElem h]
  rfl
theorem wd_end {ws : List Str} {i : Nat} (h : ¬ i < ws.length) : wd ws i = Str.empty := by
  unfold wd
  rw [List.getD_eq_getElem?_getD, List.getElem?_eq_none (by omega)]
  rfl
theorem wd_lt {ws : List Str} {i : Nat} {s : Str} (h : wd ws i = s) (hs : ¬ Str.empty = s) : i < ws.length := by
  rcases Nat.lt_or_ge i ws.length with q | q
  · exact q
  · exact absurd ((wd_end (by omega)).symm.trans h) hs
/-! ### the promises of the reading -/
def spInit (C : Addr) : Sp := fun vs H Q _ => ∃ (p dx l : Addr), vs = [.ref p, .ref l] ∧ H p = some (.ins C dx []) ∧ ∀ (H' : Hp), H' p = some (.ins C dx (rflds l 0)) → But p H H' → Q .non H'
def spAhead (C : Addr) : Sp := fun vs H Q _ => ∃ p l ws i, vs = [.ref p] ∧ RdAt C p l ws i H ∧ Q (.str (wd ws i)) H
def spTaken (C : Addr) : Sp := fun vs H Q _ => ∃ p l ws i, vs = [.ref p] ∧ RdAt C p l ws i H ∧ ∀ H', But p H H' → RdAt C p l ws (i + 1) H' → Q (.str (wd ws i)) H'
def spExpect (C N : Addr) : Sp := fun vs H Q E => ∃ p l ws i z, vs = [.ref p, .str z] ∧ RdAt C p l ws i H ∧ z.length ≤ 1000 ∧ (∀ w ∈ ws, w.length ≤ 1000) ∧
  (wd ws i = z → ∀ H', But p H H' → RdAt C p l ws (i + 1) H' → Q .non H') ∧ (¬ wd ws i = z → ∀ H', But p H H' → E (.ref N) none H')
def spName : Sp := fun vs H Q _ => ∃ z, vs = [.str z] ∧ z.length ≤ 1000 ∧ ∀ H', Same H H' → Q (.bl (nameM z)) H'
def spNum (N : Addr) : Sp := fun vs H Q E => ∃ z lo, vs = [.str z, .int lo] ∧ 0 ≤ lo ∧ lo ≤ 30 ∧ (∀ n, numM lo z = some n → Q (.int n) H) ∧ (numM lo z = none → E (.ref N) none H)
def spKind (N : Addr) : Sp := fun vs H Q E => ∃ c, vs = [.str (sg1 c)] ∧ (∀ k, kindM c = some k → Q (.str k.nm) H) ∧ (kindM c = none → E (.ref N) none H)
def spWords (N : Addr) : Sp := fun vs H Q E => ∃ z, vs = [.str z] ∧ z.length ≤ 1000 ∧ (∀ ws, lexM z = some ws → ∀ l H', Same H H' → H l = none → H' l = some (.lst (ws.map V.str)) → Q (.ref l) H') ∧ (lexM z = none → ∀ H', Same H H' → E (.ref N) none H')
/-- a reading of a piece from the word at i on -/
def RdOut (C N p l : Addr) (ws : List Str) (H : Hp) (Q : VK) (E : XK) : Option (T × Nat) → Prop
  | some (t, j) => ∀ v H', But p H H' → RdAt C p l ws j H' → TA H' v t → Q v H'
  | none => ∀ H', But p H H' → E (.ref N) none H'
structure WsOk (ws : List Str) : Prop where
  ws : ∀ w ∈ ws, w.length ≤ 1000
theorem WsOk.wd {ws : List Str} (h : WsOk ws) (i : Nat) : (wd ws i).length ≤ 1000 := by
  rcases Nat.lt_or_ge i ws.length with q | q
  · exact h.ws _ (List.mem_of_getElem? (wd_get q))
  · rw [wd_end (by omega)]; exact Nat.zero_le _
def spLevel (C N : Addr) (ks : List Kd) (f : List Str → Nat → Option (T × Nat)) (lv dp : Int) : Sp := fun vs H Q E => ∃ p l ws i, vs = [.ref p, .int lv, .int dp] ∧ RdAt C p l ws i H ∧ WsOk ws ∧ RdOut C N p l ws H Q E (levelM ws (f ws) ks i)
def spPiece (C N : Addr) (f : List Str → Nat → Option (T × Nat)) (dp : Int) : Sp := fun vs H Q E => ∃ p l ws i, vs = [.ref p, .int dp] ∧ RdAt C p l ws i H ∧ WsOk ws ∧ RdOut C N p l ws H Q E (f ws i)
def spRead (N : Addr) : Sp := fun vs H Q E => ∃ z, vs = [.str z] ∧ (z.length ≤ sizeLine) ∧ (∀ t, readM z = some t → ∀ v H', Same H H' → TA H' v t → Q v H') ∧ (readM z = none → ∀ H', Same H H' → E (.ref N) none H')
end Aw

namespace Aw
open PySem L2
/-! ### the law's own trees (lists in the place of tuples), dice, names -/
mutual
inductive LA (H : Hp) : V → T → Prop
  | num {a : Addr} {n : Int} : H a = some (.tup [.str "number", .int n]) → LA H (.ref a) (.num n)
  | name {a : Addr} {s : Str} : H a = some (.tup [.str "name", .str s]) → LA H (.ref a) (.name s)
  | gate {a : Addr} {s : Str} {b : Int} {v : V} {t : T} : H a = some (.tup [.str "gate", .str s, .int b, v]) → LA H v t → LA H (.ref a) (.gate s b t)
  | join {a p : Addr} {k : Kd} {vs : List V} {ts : List T} : H a = some (.tup [.str k.nm, .ref p]) → H p = some (.lst vs) → 0 < ts.length → LAs H vs ts → LA H (.ref a) (.join k ts)
inductive LAs (H : Hp) : List V → List T → Prop
  | nil : LAs H [] []
  | cons {v : V} {t : T} {vs : List V} {ts : List T} : LA H v t → LAs H vs ts → LAs H (v :: vs) (t :: ts)
end
theorem LA.isRef {H : Hp} {v : V} {t : T} (h : LA H v t) : ∃ a, v = .ref a := by
  cases h <;> exact ⟨_, rfl⟩
theorem LAs.headRef {H : Hp} {vs : List V} {ts : List T} (h : LAs H vs ts) (h0 : 0 < ts.length) : ∃ a r, vs = .ref a :: r := by
  cases h with
  | nil => exact absurd h0 (Nat.lt_irrefl 0)
  | cons a b =>
    obtain ⟨x, rfl⟩ := a.isRef
    exact ⟨x, _, rfl⟩
/-- tuples stay, and lists that begin with an object -/
def Keep (H H' : Hp) : Prop := (∀ b xs, H b = some (.tup xs) → H' b = some (.tup xs)) ∧ ∀ b a r, H b = some (.lst (.ref a :: r)) → H' b = some (.lst (.ref a :: r))
theorem Keep.of_same {H H' : Hp} (h : Same H H') : Keep H H' := ⟨fun b _ q => h b _ q, fun b _ _ q => h b _ q⟩
theorem Keep.of_but {H H' : Hp} {p : Addr} (h : But p H H') (hp : ∃ i r, H p = some (.lst (.int i :: r))) : Keep H H' := by
  obtain ⟨i, r, e⟩ := hp
  refine ⟨fun b xs q => h b _ q (fun z => ?_), fun b a r' q => h b _ q (fun z => ?_)⟩
  · subst z; rw [e] at q; cases q
  · subst z; rw [e] at q; cases q
mutual
theorem LA.mono {H H' : Hp} (h : Keep H H') : ∀ {v : V} {t : T}, LA H v t → LA H' v t
  | _, _, .num e => .num (h.1 _ _ e)
  | _, _, .name e => .name (h.1 _ _ e)
  | _, _, .gate e q => .gate (h.1 _ _ e) (LA.mono h q)
  | _, _, .join e e2 h0 q => .join (h.1 _ _ e) (by obtain ⟨a, r, rfl⟩ := q.headRef h0; exact h.2 _ _ _ e2) h0 (LAs.mono h q)
theorem LAs.mono {H H' : Hp} (h : Keep H H') : ∀ {v : List V} {t : List T}, LAs H v t → LAs H' v t
  | _, _, .nil => .nil
  | _, _, .cons a b => .cons (LA.mono h a) (LAs.mono h b)
end
theorem LAs.length {H : Hp} {vs : List V} {ts : List T} (h : LAs H vs ts) : vs.length = ts.length := by
  induction vs generalizing ts with
  | nil => cases h; rfl
  | cons v r ih => cases h with | cons a b => rw [List.length_cons, List.length_cons, ih b]
theorem LAs.snoc {H : Hp} {v : V} {t : T} (h1 : LA H v t) : ∀ {vs : List V} {ts : List T}, LAs H vs ts → LAs H (vs ++ [v]) (ts ++ [t])
  | _, _, .nil => .cons h1 .nil
  | _, _, .cons a b => .cons a (LAs.snoc h1 b)
theorem LAs.get {H : Hp} : ∀ {vs : List V} {ts : List T} {i : Nat} {v : V}, LAs H vs ts → vs[i]? = some v → ∃ t, ts[i]? = some t ∧ LA H v t
  | _, _, i, v, .nil, h => by simp at h
  | _, _, 0, v, .cons a b, h => ⟨_, rfl, by have e := Option.some.inj h; exact e ▸ a⟩
  | _, _, i + 1, v, .cons a b, h => by
    obtain ⟨t, h1, h2⟩ := LAs.get b (i := i) (v := v) (by simpa using h)
    exact ⟨t, by simpa using h1, h2⟩
/-- what a drawn tree keeps: at most d storeys -/
def TOk (P : Str → Prop) : Nat → T → Prop
  | _, .num n => 0 ≤ n ∧ n ≤ 30
  | _, .name s => P s
  | 0, .gate _ _ _ => False
  | 0, .join _ _ => False
  | d + 1, .gate s b t => P s ∧ 1 ≤ b ∧ b ≤ 30 ∧ TOk P d t
  | d + 1, .join _ ts => 2 ≤ ts.length ∧ ts.length ≤ 3 ∧ ∀ t ∈ ts, TOk P d t
theorem TOk.num {P : Str → Prop} {d : Nat} {n : Int} (h : TOk P d (.num n)) : 0 ≤ n ∧ n ≤ 30 := by cases d <;> exact h
theorem TOk.name {P : Str → Prop} {d : Nat} {s : Str} (h : TOk P d (.name s)) : P s := by cases d <;> exact h
theorem TOk.mkNum {P : Str → Prop} {d : Nat} {n : Int} (h : 0 ≤ n ∧ n ≤ 30) : TOk P d (.num n) := by cases d <;> exact h
theorem TOk.mkName {P : Str → Prop} {d : Nat} {s : Str} (h : P s) : TOk P d (.name s) := by cases d <;> exact h
theorem TOk.imp {P P' : Str → Prop} (hp : ∀ s, P s → P' s) : ∀ (d : Nat) {t : T}, TOk P d t → TOk P' d t
  | 0, .num _, h => h
  | 0, .name _, h => hp _ h
  | 0, .gate _ _ _, h => h
  | 0, .join _ _, h => h
  | d + 1, .num _, h => h
  | d + 1, .name _, h => hp _ h
  | d + 1, .gate _ _ _, h => ⟨hp _ h.1, h.2.1, h.2.2.1, TOk.imp hp d h.2.2.2⟩
  | d + 1, .join _ _, h => ⟨h.1, h.2.1, fun t ht => TOk.imp hp d (h.2.2 t ht)⟩
def NameOk (s : Str) : Prop := nameM s = true
def DiceAt (H : Hp) (d : Addr) : Prop := ∃ x y : Int, H d = some (.lst [.int x, .int y]) ∧ 0 ≤ x ∧ x < 2147483647 ∧ 0 ≤ y
theorem DiceAt.mono {H H' : Hp} {d : Addr} (h : DiceAt H d) (s : Same H H') : DiceAt H' d := by
  obtain ⟨x, y, e, q⟩ := h
  exact ⟨x, y, s _ _ e, q⟩
theorem DiceAt.keep {H H' : Hp} {d : Addr} (h : DiceAt H d) (b : But d H H') : Keep H H' := by
  obtain ⟨x, y, e, q⟩ := h
  exact .of_but b ⟨x, _, e⟩
/-- what is new in H' -/
def fresh (H H' : Hp) : Hp := fun b => match H b with
  | none => H' b
  | some _ => none
def hide (D : Addr) (G : Hp) : Hp := fun b => if b = D then none else G b
theorem fresh_at {H H' : Hp} {p : Addr} {o : HO} (h : H p = none) (e : H' p = some o) : fresh H H' p = some o := by
  unfold fresh
  rw [h]
  exact e
theorem fresh_inv {H H' : Hp} {p : Addr} {o : HO} (h : fresh H H' p = some o) : H p = none ∧ H' p = some o := by
  unfold fresh at h
  cases e : H p with
  | none => rw [e] at h; exact ⟨rfl, h⟩
  | some u => rw [e] at h; cases h
theorem fresh_sub {H H' : Hp} : Same (fresh H H') H' := fun b o h => (fresh_inv h).2
theorem free_of {H H' : Hp} {dd p : Addr} (D : DiceAt H' dd) (b : But dd H H') (h : H' p = none) : H p = none := by
  cases e : H p with
  | none => rfl
  | some o =>
    by_cases c : p = dd
    · subst c
      obtain ⟨x, y, e2, _⟩ := D
      rw [h] at e2
      cases e2
    · have := b p o e c
      rw [h] at this
      cases this
/-- what a callee made new is new for the caller too -/
theorem fresh_step {H H1 H2 H3 : Hp} {dd : Addr} (D : DiceAt H1 dd) (b : But dd H H1) (s : Same H2 H3) : Same (fresh H1 H2) (fresh H H3) := fun p o h => by
  obtain ⟨h1, h2⟩ := fresh_inv h
  exact fresh_at (free_of D b h1) (s p o h2)
/-! ### how a tree is written -/
def Kd.rank : Kd → Int
  | .most => 1
  | .least => 2
  | .sum => 3
def sp1 : Str := " "
def Kd.sep (k : Kd) : Str := sp1 ++ k.sg ++ sp1
mutual
def wr (firm : Int) : T → Str
  | .num n => tx n
  | .name s => s
  | .gate s b t => "[" ++ s ++ " " ++ tx b ++ "] " ++ wr 4 t
  | .join k ts => if k.rank < firm then "(" ++ wrs k.sep (k.rank + 1) ts ++ ")" else wrs k.sep (k.rank + 1) ts
def wrs (sep : Str) (firm : Int) : List T → Str
  | [] => Str.empty
  | [t] => wr firm t
  | t :: r => wr firm t ++ sep ++ wrs sep firm r
end
theorem app_assoc (a b c : Str) : a ++ b ++ c = a ++ (b ++ c) := by
  show (⟨(a.cps ++ b.cps) ++ c.cps⟩ : Str) = ⟨a.cps ++ (b.cps ++ c.cps)⟩
  rw [Array.append_assoc]
theorem len_app' (a b : Str) : (a ++ b).length = a.length + b.length := by
  show (a.cps ++ b.cps).size = _
  rw [Array.size_append] <;> rfl
theorem wrs_one (sep : Str) (f : Int) (t : T) : wrs sep f [t] = wr f t := by unfold wrs; rfl
theorem wrs_two (sep : Str) (f : Int) (t u : T) (r : List T) : wrs sep f (t :: u :: r) = wr f t ++ sep ++ wrs sep f (u :: r) := by conv => lhs; unfold wrs
theorem wrs_snoc (sep : Str) (f : Int) (t : T) : ∀ {ts : List T}, ts ≠ [] → wrs sep f (ts ++ [t]) = wrs sep f ts ++ sep ++ wr f t
  | [], h => absurd rfl h
  | [u], _ => by
    show wrs sep f [u, t] = _
    rw [wrs_two, wrs_one, wrs_one]
  | u :: v :: r, _ => by
    show wrs sep f (u :: v :: (r ++ [t])) = _
    rw [wrs_two, wrs_two]
    have ih := wrs_snoc sep f t (ts := v :: r) (by intro z; cases z)
    rw [show v :: (r ++ [t]) = (v :: r) ++ [t] from rfl, ih, app_assoc, app_assoc, app_assoc, app_assoc, app_assoc]
theorem tx_len {n : Int} (h : 0 ≤ n ∧ n ≤ 30) : (tx n).length ≤ 2 := by
  have q : ∀ k : Nat, k < 31 → (tx (k : Int)).length ≤ 2 := by decide +kernel
  have e := q n.toNat (by omega)
  rwa [show ((n.toNat : Nat) : Int) = n by omega] at e
def LB : Nat → Nat
  | 0 => 6
  | d + 1 => 3 * LB d + 20
theorem LB_six : ∀ d, 6 ≤ LB d
  | 0 => Nat.le_refl 6
  | d + 1 => by have := LB_six d; show 6 ≤ 3 * LB d + 20; omega
theorem sep_len (k : Kd) : k.sep.length = 3 := by cases k <;> decide +kernel
theorem wrs_len {sep : Str} {f : Int} {B : Nat} (hs : sep.length = 3) : ∀ {ts : List T}, ts ≠ [] → (∀ t ∈ ts, (wr f t).length ≤ B) → (wrs sep f ts).length + 3 ≤ ts.length * (B + 3)
  | [], h, _ => absurd rfl h
  | [u], _, h => by
    rw [wrs_one]
    have := h u (List.mem_singleton.mpr rfl)
    show _ ≤ 1 * (B + 3)
    omega
  | u :: v :: r, _, h => by
    rw [wrs_two, len_app', len_app', hs]
    have ih := wrs_len hs (ts := v :: r) (f := f) (by intro z; cases z) fun t ht => h t (List.mem_cons_of_mem _ ht)
    have h1 := h u List.mem_cons_self
    have e : (u :: v :: r).length * (B + 3) = (v :: r).length * (B + 3) + (B + 3) := by
      rw [List.length_cons (a := u), Nat.add_mul, Nat.one_mul]
    omega
theorem wr_len {P : Str → Prop} (hP : ∀ s, P s → s.length ≤ 6) : ∀ (d : Nat) {t : T} (f : Int), TOk P d t → (wr f t).length ≤ LB d
  | d, .num n, f, h => by
    have := tx_len h.num
    have := LB_six d
    unfold wr
    omega
  | d, .name s, f, h => by
    have := hP _ h.name
    have := LB_six d
    unfold wr
    omega
  | 0, .gate _ _ _, _, h => h.elim
  | 0, .join _ _, _, h => h.elim
  | d + 1, .gate s b t, f, h => by
    obtain ⟨h1, h2, h3, h4⟩ := h
    have e1 := hP _ h1
    have e2 := tx_len (n := b) ⟨by omega, h3⟩
    have e3 := wr_len hP d 4 h4
    unfold wr
    rw [len_app', len_app', len_app', len_app', len_app']
    have c1 : ("[" : Str).length = 1 := by decide +kernel
    have c2 : (" " : Str).length = 1 := by decide +kernel
    have c3 : ("] " : Str).length = 2 := by decide +kernel
    show _ ≤ 3 * LB d + 20
    omega
  | d + 1, .join k ts, f, h => by
    obtain ⟨h1, h2, h3⟩ := h
    have hne : ts ≠ [] := by intro z; subst z; simp at h1
    have e := wrs_len (f := k.rank + 1) (B := LB d) (sep_len k) hne fun t ht => wr_len hP d _ (h3 t ht)
    have e2 : ts.length * (LB d + 3) ≤ 3 * (LB d + 3) := Nat.mul_le_mul_right _ h2
    have c1 : ("(" : Str).length = 1 := by decide +kernel
    have c2 : (")" : Str).length = 1 := by decide +kernel
    unfold wr
    show _ ≤ 3 * LB d + 20
    split
    · rw [len_app', len_app']; omega
    · omega
end Aw

namespace Aw
open PySem L2
/-! ### walks in general: a comprehension's turns over whatever stands still -/
theorem walk_gen {J : It} {n : Nat} {G : Hp → Prop} {Y : Nat → Hp → V → Hp → Prop} (w : Walk J n G Y) {B : V → Hp → (Hp → Prop) → Prop} {Qd : Hp → Prop} {Hs : Hp} (Pv : Nat → Hp → Prop) (h0 : Pv 0 Hs) (hG : ∀ i H, i ≤ n → Pv i H → G H)
    (hs : ∀ i x H H', i < n → Pv i H → Y i H x H' → B x H' (Pv (i + 1))) (hd : ∀ H, Pv n H → Qd H) :
    ∃ W : Nat → Nat → Hp → Prop, (∃ m, W 0 m Hs) ∧ ∀ i m H, W i m H → (J.stop i H ∧ Qd H) ∨ (J.go i H ∧ ∃ Nx : Hp → Prop, (∀ H', Nx H' → ∃ m', m' < m ∧ W (i + 1) m' H') ∧ ∀ x H', J.yld i H x H' → B x H' Nx) := by
  refine ⟨fun i m H => m = n - i ∧ i ≤ n ∧ Pv i H, ⟨n, by simp, Nat.zero_le _, h0⟩, ?_⟩
  rintro i m H ⟨rfl, hi, p⟩
  have q := hG i H hi p
  by_cases hlt : i < n
  · exact .inr ⟨w.goes i H hlt q, Pv (i + 1), fun H' p' => ⟨n - (i + 1), by omega, rfl, hlt, p'⟩, fun x H' y => hs i x H H' hlt p (w.yields i H x H' hlt q y)⟩
  · have e : i = n := by omega
    subst e
    exact .inl ⟨w.stops H q, hd H p⟩
/-! ### the names that stand in a tree -/
mutual
def named : T → List Str
  | .num _ => []
  | .name s => [s]
  | .gate s _ t => s :: named t
  | .join _ ts => nameds ts
def nameds : List T → List Str
  | [] => []
  | t :: r => named t ++ nameds r
end
theorem nameds_take {ts : List T} {i : Nat} {t : T} (h : ts[i]? = some t) : nameds (ts.take (i + 1)) = nameds (ts.take i) ++ named t := by
  rw [take_more h]
  generalize ts.take i = l
  induction l with
  | nil =>
    show named t ++ nameds [] = [] ++ named t
    simp [nameds]
  | cons u r ih =>
    show named u ++ nameds (r ++ [t]) = (named u ++ nameds r) ++ named t
    rw [ih, List.append_assoc]
def NB : Nat → Nat
  | 0 => 1
  | d + 1 => 3 * NB d + 1
theorem NB_one : ∀ d, 1 ≤ NB d
  | 0 => Nat.le_refl 1
  | d + 1 => by show 1 ≤ 3 * NB d + 1; omega
theorem nameds_len {B : Nat} : ∀ {ts : List T}, (∀ t ∈ ts, (named t).length ≤ B) → (nameds ts).length ≤ ts.length * B
  | [], _ => Nat.zero_le _
  | t :: r, h => by
    have ih := nameds_len (ts := r) fun u hu => h u (List.mem_cons_of_mem _ hu)
    have h1 := h t List.mem_cons_self
    show (named t ++ nameds r).length ≤ _
    rw [List.length_append, List.length_cons, Nat.add_mul, Nat.one_mul]
    omega
theorem named_len {P : Str → Prop} : ∀ (d : Nat) {t : T}, TOk P d t → (named t).length ≤ NB d
  | d, .num _, _ => Nat.zero_le _
  | d, .name _, _ => NB_one d
  | 0, .gate _ _ _, h => h.elim
  | 0, .join _ _, h => h.elim
  | d + 1, .gate s n t, h => by
    have e := named_len d h.2.2.2
    show (named t).length + 1 ≤ 3 * NB d + 1
    omega
  | d + 1, .join k ts, h => by
    obtain ⟨h1, h2, h3⟩ := h
    have e := nameds_len (ts := ts) fun t ht => named_len d (h3 t ht)
    have e2 : ts.length * NB d ≤ 3 * NB d := Nat.mul_le_mul_right _ h2
    show (nameds ts).length ≤ 3 * NB d + 1
    omega
theorem NB_le : ∀ {d : Nat}, d ≤ 2 → NB d ≤ 13
  | 0, _ => by decide
  | 1, _ => by decide
  | 2, _ => by decide
  | _ + 3, h => by omega
/-- each once, in the order in which they stand first -/
def addN (acc : List Str) (s : Str) : List Str := if s ∈ acc then acc else acc ++ [s]
def once (l : List Str) : List Str := l.foldl addN []
theorem once_take {l : List Str} {i : Nat} {s : Str} (h : l[i]? = some s) : once (l.take (i + 1)) = addN (once (l.take i)) s := by
  unfold once
  rw [take_more h, List.foldl_append]
  rfl
theorem addN_len (acc : List Str) (s : Str) : (addN acc s).length ≤ acc.length + 1 := by
  unfold addN
  split
  · omega
  · rw [List.length_append, List.length_singleton]; omega
theorem once_len (l : List Str) : (once l).length ≤ l.length := by
  have g : ∀ (l acc : List Str), (l.foldl addN acc).length ≤ acc.length + l.length := by
    intro l
    induction l with
    | nil => intro acc; exact Nat.le_refl _
    | cons s r ih =>
      intro acc
      have h1 := ih (addN acc s)
      have h2 := addN_len acc s
      rw [List.foldl_cons, List.length_cons]
      omega
  have := g l []
  simpa [once] using this
/-- the dict of the names, each with True -/
def nkvs (l : List Str) : List (Key × V) := l.map fun s => (Sum.inr s, .bl true)
theorem nkvs_put (l : List Str) (s : Str) : putK (nkvs l) (Sum.inr s) (.bl true) = nkvs (addN l s) := by
  unfold putK
  have e : ((nkvs l).any fun kv => decide (kv.1 = Sum.inr s)) = decide (s ∈ l) := by
    unfold nkvs
    rw [List.any_map]
    induction l with
    | nil => rfl
    | cons a r ih =>
      rw [List.any_cons, ih]
      show (decide ((Sum.inr a : Key) = Sum.inr s) || decide (s ∈ r)) = decide (s ∈ a :: r)
      by_cases c : a = s
      · subst c; simp
      · have c2 : ¬ (Sum.inr a : Key) = Sum.inr s := by intro z; exact c (Sum.inr.inj z)
        rw [decide_eq_false c2, Bool.false_or]
        have : (s ∈ a :: r) ↔ s ∈ r := by
          rw [List.mem_cons]
          exact ⟨fun h => h.elim (fun z => absurd z.symm c) id, .inr⟩
        exact decide_eq_decide.mpr this.symm
  rw [e]
  unfold addN
  by_cases c : s ∈ l
  · rw [decide_eq_true c, if_pos rfl, if_pos c]
    have : (nkvs l).map (fun kv => if kv.1 = (Sum.inr s : Key) then (kv.1, V.bl true) else kv) = nkvs l := by
      unfold nkvs
      rw [List.map_map]
      apply List.map_congr_left
      intro a _
      show (if (Sum.inr a : Key) = Sum.inr s then ((Sum.inr a : Key), V.bl true) else ((Sum.inr a : Key), V.bl true)) = _
      split <;> rfl
    exact this
  · rw [decide_eq_false c, if_neg Bool.false_ne_true, if_neg c]
    unfold nkvs
    rw [List.map_append]
    rfl
theorem nkvs_keys (l : List Str) : (nkvs l).map (fun kv => kV kv.1) = l.map V.str := by
  unfold nkvs
  rw [List.map_map]
  rfl
theorem dp_strs {K : PySem.W.Frag} {H : Hp} : ∀ (l : List Str), DpAll K H (l.map V.str) (l.map PyData.str)
  | [] => .nil
  | s :: r => .cons (.str s) (dp_strs r)
theorem in_strs (s : Str) (l : List Str) : inV (.str s) (l.map V.str) = decide (s ∈ l) := by
  unfold inV
  rw [List.any_map]
  induction l with
  | nil => rfl
  | cons a r ih =>
    rw [List.any_cons, ih]
    show ((a == s) || decide (s ∈ r)) = decide (s ∈ a :: r)
    by_cases c : a = s
    · subst c; simp
    · have e : (a == s) = false := beq_eq_false_iff_ne.mpr c
      rw [e, Bool.false_or]
      have : (s ∈ a :: r) ↔ s ∈ r := by
        rw [List.mem_cons]
        exact ⟨fun h => h.elim (fun z => absurd z.symm c) id, .inr⟩
      exact decide_eq_decide.mpr this.symm
theorem flat_strs (l : List Str) : (l.map V.str).all flatV = true := by
  rw [List.all_map, List.all_eq_true]
  intro _ _
  rfl
theorem strOk_name {s : Str} (h : NameOk s) : PyData.strOk s = true := by
  unfold NameOk nameM at h
  have q := (Bool.and_eq_true_iff.mp h).2
  have q2 : ∀ c ∈ LET, c < 0x110000 := by decide +kernel
  unfold PyData.strOk
  rw [← Array.all_toList, List.all_eq_true]
  exact fun c hc => decide_eq_true (q2 c (of_decide_eq_true (List.all_eq_true.mp q c hc)))
theorem can_strs : ∀ (l : List Str), (∀ s ∈ l, NameOk s) → PyData.canLayAll0 (l.map PyData.str) = true
  | [], _ => by simp [PyData.canLayAll0]
  | s :: r, h => by
    show (PyData.canLay0 (.str s) && PyData.canLayAll0 (r.map PyData.str)) = true
    rw [can_strs r fun u hu => h u (List.mem_cons_of_mem _ hu), Bool.and_true]
    unfold PyData.canLay0
    exact strOk_name (h s List.mem_cons_self)
theorem depth_strs : ∀ (l : List Str), PyData.depthAll (l.map PyData.str) ≤ 1
  | [] => by show PyData.depthAll [] ≤ 1; unfold PyData.depthAll; omega
  | s :: r => by
    have ih := depth_strs r
    show max (PyData.depth (.str s)) (PyData.depthAll (r.map PyData.str)) ≤ 1
    have e : PyData.depth (.str s) ≤ 1 := by unfold PyData.depth; omega
    omega
theorem shaped_strs {l : List Str} (h : ∀ s ∈ l, NameOk s) : SeqAt.shaped (.list (l.map PyData.str)) = true := by
  unfold SeqAt.shaped
  have e1 : PyData.canLay0 (.list (l.map PyData.str)) = true := by unfold PyData.canLay0; exact can_strs l h
  have e2 : PyData.depth (.list (l.map PyData.str)) ≤ 64 := by
    have := depth_strs l
    unfold PyData.depth
    omega
  rw [e1, decide_eq_true e2]
  rfl
theorem eqv_strs {l : List Str} (h : ∀ s ∈ l, NameOk s) : PyData.eqv (.list (l.map PyData.str)) (.list (l.map PyData.str)) = true := by
  refine SeqAt.eqv_refl _ ?_
  unfold PyData.canLay0
  exact can_strs l h
mutual
theorem named_ok {P : Str → Prop} : ∀ (d : Nat) {t : T}, TOk P d t → ∀ s ∈ named t, P s
  | d, .num _, _, s, hs => by cases hs
  | d, .name z, h, s, hs => by rw [List.mem_singleton.mp hs]; exact h.name
  | 0, .gate _ _ _, h, _, _ => h.elim
  | 0, .join _ _, h, _, _ => h.elim
  | d + 1, .gate z n t, h, s, hs => by
    rcases List.mem_cons.mp hs with q | q
    · rw [q]; exact h.1
    · exact named_ok d h.2.2.2 s q
  | d + 1, .join k ts, h, s, hs => nameds_ok d h.2.2 s hs
theorem nameds_ok {P : Str → Prop} : ∀ (d : Nat) {ts : List T}, (∀ t ∈ ts, TOk P d t) → ∀ s ∈ nameds ts, P s
  | d, [], _, s, hs => by cases hs
  | d, t :: r, h, s, hs => by
    rcases List.mem_append.mp (show s ∈ named t ++ nameds r from hs) with q | q
    · exact named_ok d (h t List.mem_cons_self) s q
    · exact nameds_ok d (fun u hu => h u (List.mem_cons_of_mem _ hu)) s q
end
theorem addN_mem {acc : List Str} {s x : Str} (h : x ∈ addN acc s) : x ∈ acc ∨ x = s := by
  unfold addN at h
  split at h
  · exact .inl h
  · rcases List.mem_append.mp h with q | q
    · exact .inl q
    · exact .inr (List.mem_singleton.mp q)
theorem once_mem {l : List Str} {x : Str} (h : x ∈ once l) : x ∈ l := by
  have g : ∀ (l acc : List Str), x ∈ l.foldl addN acc → x ∈ acc ∨ x ∈ l := by
    intro l
    induction l with
    | nil => intro acc h; exact .inl h
    | cons s r ih =>
      intro acc h
      rcases ih _ h with q | q
      · rcases addN_mem q with z | z
        · exact .inl z
        · exact .inr (z ▸ List.mem_cons_self)
      · exact .inr (List.mem_cons_of_mem _ q)
  rcases g l [] h with q | q
  · cases q
  · exact q
end Aw

namespace Aw
open PySem L2
/-! ### names that lean on names: where they lead -/
/-- a dict of lists of names: each name, where its list lies, the list -/
abbrev LM := List (Str × Addr × List Str)
def kvL (m : LM) : List (Key × V) := m.map fun p => (Sum.inr p.1, V.ref p.2.1)
def lkp : LM → Str → Option (Addr × List Str)
  | [], _ => none
  | p :: r, s => if p.1 = s then some p.2 else lkp r s
def lof (m : LM) (s : Str) : List Str := match lkp m s with
  | some p => p.2
  | none => []
def tot (m : LM) : Nat := (m.map fun p => p.2.2.length).sum
theorem kvL_val (m : LM) (s : Str) : valV (kvL m) (Sum.inr s) = (lkp m s).map fun p => V.ref p.1 := by
  induction m with
  | nil => rfl
  | cons p r ih =>
    unfold lkp
    by_cases e : p.1 = s
    · rw [if_pos e]
      exact valV_pos (by show (Sum.inr p.1 : Key) = Sum.inr s; rw [e])
    · rw [if_neg e, ← ih]
      exact valV_neg (fun z => e (Sum.inr.inj z))
theorem lkp_mem {m : LM} {s : Str} {p : Addr × List Str} (h : lkp m s = some p) : (s, p.1, p.2) ∈ m := by
  induction m with
  | nil => cases h
  | cons q r ih =>
    unfold lkp at h
    by_cases e : q.1 = s
    · rw [if_pos e] at h
      cases h
      subst e
      exact List.mem_cons_self
    · rw [if_neg e] at h
      exact List.mem_cons_of_mem _ (ih h)
theorem mem_tot {m : LM} {p : Str × Addr × List Str} (h : p ∈ m) : p.2.2.length ≤ tot m := by
  induction m with
  | nil => cases h
  | cons q r ih =>
    unfold tot
    rw [List.map_cons, List.sum_cons]
    rcases List.mem_cons.mp h with e | e
    · rw [e]; omega
    · have := ih e; unfold tot at this; omega
theorem lof_len (m : LM) (s : Str) : (lof m s).length ≤ tot m := by
  unfold lof
  split
  · next p h => exact mem_tot (lkp_mem h)
  · exact Nat.zero_le _
def uni (m : LM) : List Str := (m.map fun p => p.2.2).flatten
theorem uni_len (m : LM) : (uni m).length = tot m := by
  unfold uni tot
  rw [List.length_flatten, List.map_map]
  rfl
theorem lof_uni {m : LM} {s x : Str} (h : x ∈ lof m s) : x ∈ uni m := by
  unfold lof at h
  split at h
  · next p e => exact List.mem_flatten.mpr ⟨p.2, List.mem_map.mpr ⟨_, lkp_mem e, rfl⟩, h⟩
  · cases h
/-- b is led to from a, over one step or more -/
inductive Rch (f : Str → List Str) : Str → Str → Prop
  | one {a b : Str} : b ∈ f a → Rch f a b
  | more {a b c : Str} : Rch f a b → c ∈ f b → Rch f a c
theorem Rch.trans {f : Str → List Str} {a b c : Str} (h1 : Rch f a b) (h2 : Rch f b c) : Rch f a c := by
  induction h2 with
  | one h => exact .more h1 h
  | more _ h ih => exact .more ih h
theorem Rch.head {f : Str → List Str} {a b c : Str} (h1 : b ∈ f a) (h2 : Rch f b c) : Rch f a c := Rch.trans (.one h1) h2
theorem Rch.uni {m : LM} {a b : Str} (h : Rch (lof m) a b) : b ∈ uni m := by
  cases h with
  | one h => exact lof_uni h
  | more _ h => exact lof_uni h
/-- a set that holds what the first leans on and is closed holds all that is led to -/
theorem Rch.closed {f : Str → List Str} {S : Str → Prop} {a b : Str} (h0 : ∀ x ∈ f a, S x) (hs : ∀ x, S x → ∀ y ∈ f x, S y) (h : Rch f a b) : S b := by
  induction h with
  | one h => exact h0 _ h
  | more _ h ih => exact hs _ ih _ h
theorem nodup_sub : ∀ {l u : List Str}, l.Nodup → (∀ x ∈ l, x ∈ u) → l.length ≤ u.length
  | [], _, _, _ => Nat.zero_le _
  | a :: l, u, nd, h => by
    rw [List.nodup_cons] at nd
    have ha := h a List.mem_cons_self
    have ih := nodup_sub (l := l) (u := u.erase a) nd.2 fun x hx => (List.mem_erase_of_ne (fun e => nd.1 (by rw [← e]; exact hx))).mpr (h x (List.mem_cons_of_mem _ hx))
    rw [List.length_erase_of_mem ha] at ih
    have := List.length_pos_of_mem ha
    rw [List.length_cons]
    omega
/-- what is found and what waits, while it is looked where a name leads -/
structure Seek (m : LM) (s : Str) (fd wt : List Str) : Prop where
  nd : fd.Nodup
  rf : ∀ x ∈ fd, Rch (lof m) s x
  rw : ∀ x ∈ wt, Rch (lof m) s x
  c0 : ∀ x ∈ lof m s, x ∈ fd ∨ x ∈ wt
  c1 : ∀ x ∈ fd, ∀ y ∈ lof m x, y ∈ fd ∨ y ∈ wt
  ln : wt.length ≤ (fd.length + 1) * tot m
theorem Seek.start (m : LM) (s : Str) : Seek m s [] (lof m s) :=
  ⟨List.nodup_nil, fun x h => (by cases h), fun x h => .one h, fun x h => .inr h, fun x h => (by cases h), by have := lof_len m s; simp; omega⟩
theorem Seek.fl {m : LM} {s : Str} {fd wt : List Str} (h : Seek m s fd wt) : fd.length ≤ tot m := by
  rw [← uni_len]
  exact nodup_sub h.nd fun x hx => (h.rf x hx).uni
theorem mem_dl {l : List Str} {x : Str} (h : x ∈ l.dropLast) : x ∈ l := (List.dropLast_sublist l).subset h
theorem mem_last {wt : List Str} {o : Str} (e : wt[wt.length - 1]? = some o) {x : Str} (h : x ∈ wt) : x ∈ wt.dropLast ∨ x = o := by
  have hne : wt ≠ [] := fun z => by subst z; cases h
  have hl : wt.getLast hne = o := by
    rw [List.getLast_eq_getElem]
    have := (List.getElem?_eq_some_iff.mp e).2
    exact this
  rw [← List.dropLast_concat_getLast hne, hl] at h
  rcases List.mem_append.mp h with q | q
  · exact .inl q
  · exact .inr (List.mem_singleton.mp q)
theorem Seek.skip {m : LM} {s : Str} {fd wt : List Str} {o : Str} (h : Seek m s fd wt) (e : wt[wt.length - 1]? = some o) (ho : o ∈ fd) : Seek m s fd wt.dropLast :=
  ⟨h.nd, h.rf, fun x hx => h.rw x (mem_dl hx), fun x hx => (h.c0 x hx).elim .inl fun q => (mem_last e q).elim .inr fun z => .inl (by rw [z]; exact ho),
    fun x hx y hy => (h.c1 x hx y hy).elim .inl fun q => (mem_last e q).elim .inr fun z => .inl (by rw [z]; exact ho), by have := h.ln; rw [List.length_dropLast]; omega⟩
theorem Seek.step {m : LM} {s : Str} {fd wt : List Str} {o : Str} (h : Seek m s fd wt) (e : wt[wt.length - 1]? = some o) (ho : o ∉ fd) : Seek m s (fd ++ [o]) (wt.dropLast ++ lof m o) := by
  have hm : o ∈ wt := List.mem_of_getElem? e
  have ro := h.rw o hm
  refine ⟨?_, fun x hx => ?_, fun x hx => ?_, fun x hx => ?_, fun x hx y hy => ?_, ?_⟩
  · rw [List.nodup_append]
    exact ⟨h.nd, by simp, fun a ha b hb z => ho (by rw [List.mem_singleton.mp hb] at z; rw [← z]; exact ha)⟩
  · rcases List.mem_append.mp hx with q | q
    · exact h.rf x q
    · rw [List.mem_singleton.mp q]; exact ro
  · rcases List.mem_append.mp hx with q | q
    · exact h.rw x (mem_dl q)
    · exact .more ro q
  · rcases h.c0 x hx with q | q
    · exact .inl (List.mem_append_left _ q)
    · rcases mem_last e q with z | z
      · exact .inr (List.mem_append_left _ z)
      · exact .inl (List.mem_append_right _ (by rw [z]; exact List.mem_singleton.mpr rfl))
  · rcases List.mem_append.mp hx with q | q
    · rcases h.c1 x q y hy with r | r
      · exact .inl (List.mem_append_left _ r)
      · rcases mem_last e r with z | z
        · exact .inr (List.mem_append_left _ z)
        · exact .inl (List.mem_append_right _ (by rw [z]; exact List.mem_singleton.mpr rfl))
    · rw [List.mem_singleton.mp q] at hy
      exact .inr (List.mem_append_right _ hy)
  · have h1 := h.ln
    have h2 := lof_len m o
    have h3 := List.length_pos_of_mem hm
    rw [List.length_append, List.length_dropLast, List.length_append, List.length_singleton, Nat.add_mul (fd.length + 1) 1]
    omega
theorem Seek.done {m : LM} {s : Str} {fd : List Str} (h : Seek m s fd []) (x : Str) : x ∈ fd ↔ Rch (lof m) s x :=
  ⟨h.rf x, fun r => r.closed (S := fun x => x ∈ fd) (fun y hy => (h.c0 y hy).resolve_right (by simp)) (fun y hy z hz => (h.c1 y hy z hz).resolve_right (by simp))⟩
/-- what a while of that search is measured by -/
def seekM (m : LM) (fd wt : List Str) : Nat := (tot m - fd.length) * (tot m + 1) + wt.length
theorem seekM_skip {m : LM} {fd wt : List Str} {o : Str} (e : wt[wt.length - 1]? = some o) : seekM m fd wt.dropLast < seekM m fd wt := by
  have := List.length_pos_of_mem (List.mem_of_getElem? e)
  unfold seekM
  rw [List.length_dropLast]
  omega
theorem seekM_step {m : LM} {s : Str} {fd wt : List Str} {o : Str} (h : Seek m s fd wt) (e : wt[wt.length - 1]? = some o) (ho : o ∉ fd) : seekM m (fd ++ [o]) (wt.dropLast ++ lof m o) < seekM m fd wt := by
  have h1 := (h.step e ho).fl
  have h2 := lof_len m o
  have h3 := List.length_pos_of_mem (List.mem_of_getElem? e)
  unfold seekM
  rw [List.length_append, List.length_singleton] at h1 ⊢
  rw [List.length_append, List.length_dropLast]
  have e1 : tot m - fd.length = (tot m - (fd.length + 1)) + 1 := by omega
  rw [e1, Nat.add_mul, Nat.one_mul]
  omega
/-- the dict stands there, its lists too -/
structure LAt (H : Hp) (D : Addr) (m : LM) : Prop where
  d : H D = some (.dK (kvL m))
  l : ∀ p ∈ m, H p.2.1 = some (.lst (p.2.2.map V.str))
theorem LAt.mono {H H' : Hp} {D : Addr} {m : LM} (h : LAt H D m) (s : Same H H') : LAt H' D m := ⟨s _ _ h.d, fun p hp => s _ _ (h.l p hp)⟩
end Aw

namespace Aw
open PySem L2
/-! ### texts in order -/
open PySem.Spec in
theorem lt_irr : ∀ a : List Nat, ltCps a a = false
  | [] => rfl
  | x :: r => by unfold ltCps; simp [lt_irr r]
open PySem.Spec in
theorem lt_anti : ∀ a b : List Nat, ltCps a b = false → ltCps b a = false → a = b
  | [], [], _, _ => rfl
  | [], _ :: _, h, _ => by unfold ltCps at h; cases h
  | _ :: _, [], _, h => by unfold ltCps at h; cases h
  | x :: r, y :: t, h1, h2 => by
    unfold ltCps at h1 h2
    rcases Nat.lt_trichotomy x y with c | c | c
    · simp [c] at h1
    · subst c
      simp at h1 h2
      rw [lt_anti r t h1 h2]
    · simp [c] at h2
open PySem.Spec in
theorem le_trans' : ∀ a b c : List Nat, ltCps b a = false → ltCps c b = false → ltCps c a = false
  | a, b, [], h1, h2 => by
    cases b with
    | nil => cases a with
      | nil => rfl
      | cons => exact h1
    | cons => unfold ltCps at h2; cases h2
  | [], b, z :: t, h1, h2 => by unfold ltCps; rfl
  | x :: r, [], z :: t, h1, h2 => by unfold ltCps at h1; cases h1
  | x :: r, y :: s, z :: t, h1, h2 => by
    unfold ltCps at h1 h2 ⊢
    simp only [Bool.or_eq_false_iff, decide_eq_false_iff_not, Bool.and_eq_false_iff] at h1 h2 ⊢
    refine ⟨by omega, ?_⟩
    by_cases c : z = x
    · right
      have e1 : y = x := by omega
      have e2 : z = y := by omega
      rcases h1.2 with q | q
      · simp [e1] at q
      · rcases h2.2 with q' | q'
        · simp [e2] at q'
        · exact le_trans' r s t q q'
    · left; simpa using c
open PySem.Spec in
def sle (a b : Str) : Prop := ltCps b.cps.toList a.cps.toList = false
theorem sle_refl (a : Str) : sle a a := lt_irr _
theorem sle_trans {a b c : Str} (h1 : sle a b) (h2 : sle b c) : sle a c := le_trans' _ _ _ h1 h2
theorem str_ext {a b : Str} (h : a.cps.toList = b.cps.toList) : a = b := by
  cases a with | mk x => cases b with | mk y =>
  have : x = y := Array.toList_inj.mp h
  rw [this]
theorem sle_anti {a b : Str} (h1 : sle a b) (h2 : sle b a) : a = b := str_ext (lt_anti _ _ h2 h1)
theorem rising_pair : ∀ (r : List Str) (p : Str), PyProof.Rows.risingS p r = true → (p :: r).Pairwise sle
  | [], p, _ => List.pairwise_singleton _ _
  | x :: r, p, h => by
    unfold PyProof.Rows.risingS at h
    rw [Bool.and_eq_true] at h
    have h1 : sle p x := by simpa [sle] using h.1
    have ih := rising_pair r x h.2
    rw [List.pairwise_cons]
    refine ⟨fun y hy => ?_, ih⟩
    rcases List.mem_cons.mp hy with q | q
    · rw [q]; exact h1
    · exact sle_trans h1 ((List.pairwise_cons.mp ih).1 y q)
theorem sorted_pair {l : List Str} (h : PyProof.Rows.sortedS l = true) : l.Pairwise sle := by
  cases l with
  | nil => exact .nil
  | cons x r => exact rising_pair r x h
/-- two lists in order that are made of the same are the same -/
theorem srt_one {a b : List Str} (ha : a.Pairwise sle) (hb : b.Pairwise sle) (p : a.Perm b) : a = b := List.Perm.eq_of_pairwise (fun _ _ _ _ => sle_anti) ha hb p
theorem srt_same {a b : List Str} (ha : a.Pairwise sle) (hb : b.Pairwise sle) (na : a.Nodup) (nb : b.Nodup) (h : ∀ x, x ∈ a ↔ x ∈ b) : a = b := srt_one ha hb ((List.perm_ext_iff_of_nodup na nb).mpr h)
theorem addN_nodup {acc : List Str} (h : acc.Nodup) (s : Str) : (addN acc s).Nodup := by
  unfold addN
  split
  · exact h
  · next c =>
    rw [List.nodup_append]
    exact ⟨h, by simp, fun a ha b hb z => c (by rw [List.mem_singleton.mp hb] at z; rw [← z]; exact ha)⟩
theorem once_nodup (l : List Str) : (once l).Nodup := by
  have g : ∀ (l acc : List Str), acc.Nodup → (l.foldl addN acc).Nodup := by
    intro l
    induction l with
    | nil => intro acc h; exact h
    | cons s r ih => intro acc h; exact ih _ (addN_nodup h s)
  exact g l [] .nil
theorem mem_addN {acc : List Str} {s x : Str} : x ∈ addN acc s ↔ x ∈ acc ∨ x = s := by
  unfold addN
  split
  · next c => exact ⟨.inl, fun h => h.elim id fun e => by rw [e]; exact c⟩
  · rw [List.mem_append, List.mem_singleton]
theorem mem_once {l : List Str} {x : Str} : x ∈ once l ↔ x ∈ l := by
  have g : ∀ (l acc : List Str), x ∈ l.foldl addN acc ↔ x ∈ acc ∨ x ∈ l := by
    intro l
    induction l with
    | nil => intro acc; simp
    | cons s r ih =>
      intro acc
      rw [List.foldl_cons, ih, mem_addN, List.mem_cons]
      exact ⟨fun h => h.elim (fun q => q.elim .inl fun e => .inr (.inl e)) fun q => .inr (.inr q), fun h => h.elim (fun q => .inl (.inl q)) fun q => q.elim (fun e => .inl (.inr e)) .inr⟩
  have := g l []
  simpa [once] using this
theorem once_pair {l : List Str} (h : l.Pairwise sle) : (once l).Pairwise sle := by
  have g : ∀ (l acc : List Str), acc.Pairwise sle → l.Pairwise sle → (∀ a ∈ acc, ∀ b ∈ l, sle a b) → (l.foldl addN acc).Pairwise sle := by
    intro l
    induction l with
    | nil => intro acc h _ _; exact h
    | cons s r ih =>
      intro acc ha hl hb
      rw [List.pairwise_cons] at hl
      refine ih _ ?_ hl.2 fun a q b hb' => ?_
      · unfold addN
        split
        · exact ha
        · rw [List.pairwise_append]
          exact ⟨ha, List.pairwise_singleton _ _, fun a q b hb' => by rw [List.mem_singleton.mp hb']; exact hb a q s List.mem_cons_self⟩
      · rcases mem_addN.mp q with z | z
        · exact hb a z b (List.mem_cons_of_mem _ hb')
        · rw [z]; exact hl.1 b hb'
  exact g l [] .nil h fun a q => by cases q
end Aw

namespace Aw
open PySem L2
/-! ### dicts of lists of names, filled -/
def putM (m : LM) (s : Str) (q : Addr × List Str) : LM :=
  if (m.any fun p => decide (p.1 = s)) = true then m.map (fun p => if p.1 = s then (p.1, q) else p) else m ++ [(s, q)]
theorem any_kvL (m : LM) (s : Str) : ((kvL m).any fun kv => decide (kv.1 = (Sum.inr s : Key))) = m.any fun p => decide (p.1 = s) := by
  unfold kvL
  rw [List.any_map]
  congr 1
  funext p
  show decide ((Sum.inr p.1 : Key) = Sum.inr s) = decide (p.1 = s)
  by_cases e : p.1 = s
  · rw [decide_eq_true e, decide_eq_true (by rw [e])]
  · rw [decide_eq_false e, decide_eq_false (fun z => e (Sum.inr.inj z))]
theorem kvL_put (m : LM) (s : Str) (q : Addr × List Str) : putK (kvL m) (Sum.inr s) (.ref q.1) = kvL (putM m s q) := by
  unfold putK putM
  rw [any_kvL]
  by_cases c : (m.any fun p => decide (p.1 = s)) = true
  · rw [if_pos c, if_pos c]
    unfold kvL
    rw [List.map_map, List.map_map]
    refine List.map_congr_left fun p _ => ?_
    show (if (Sum.inr p.1 : Key) = Sum.inr s then ((Sum.inr p.1 : Key), V.ref q.1) else (Sum.inr p.1, V.ref p.2.1)) = (Sum.inr (if p.1 = s then (p.1, q) else p).1, V.ref (if p.1 = s then (p.1, q) else p).2.1)
    by_cases e : p.1 = s
    · rw [if_pos e, if_pos (by rw [e])]
    · rw [if_neg e, if_neg (fun z => e (Sum.inr.inj z))]
  · rw [if_neg c, if_neg c]
    unfold kvL
    rw [List.map_append]
    rfl
def keysM (m : LM) : List Str := m.map (·.1)
theorem any_keys {m : LM} {s : Str} : (m.any fun p => decide (p.1 = s)) = true ↔ s ∈ keysM m := by
  rw [List.any_eq_true]
  unfold keysM
  rw [List.mem_map]
  exact ⟨fun ⟨p, h, e⟩ => ⟨p, h, of_decide_eq_true e⟩, fun ⟨p, h, e⟩ => ⟨p, h, decide_eq_true e⟩⟩
theorem keys_put (m : LM) (s : Str) (q : Addr × List Str) : keysM (putM m s q) = if s ∈ keysM m then keysM m else keysM m ++ [s] := by
  unfold putM
  by_cases c : (m.any fun p => decide (p.1 = s)) = true
  · rw [if_pos c, if_pos (any_keys.mp c)]
    unfold keysM
    rw [List.map_map]
    refine List.map_congr_left fun p _ => ?_
    show (if p.1 = s then (p.1, q) else p).1 = p.1
    split <;> rfl
  · rw [if_neg c, if_neg (fun h => c (any_keys.mpr h))]
    unfold keysM
    rw [List.map_append]
    rfl
theorem nodup_put {m : LM} (h : (keysM m).Nodup) (s : Str) (q : Addr × List Str) : (keysM (putM m s q)).Nodup := by
  rw [keys_put]
  split
  · exact h
  · next c =>
    rw [List.nodup_append]
    exact ⟨h, by simp, fun a ha b hb z => c (by rw [List.mem_singleton.mp hb] at z; rw [← z]; exact ha)⟩
theorem lkp_cons {p : Str × Addr × List Str} {r : LM} {s : Str} : lkp (p :: r) s = if p.1 = s then some p.2 else lkp r s := rfl
theorem lof_pos {p : Str × Addr × List Str} {r : LM} {s : Str} (e : p.1 = s) : lof (p :: r) s = p.2.2 := by unfold lof; rw [lkp_cons, if_pos e]
theorem lof_neg {p : Str × Addr × List Str} {r : LM} {s : Str} (e : ¬ p.1 = s) : lof (p :: r) s = lof r s := by unfold lof; rw [lkp_cons, if_neg e]
theorem lkp_none {m : LM} {s : Str} : lkp m s = none ↔ s ∉ keysM m := by
  induction m with
  | nil => exact ⟨fun _ h => (by cases h), fun _ => rfl⟩
  | cons p r ih =>
    unfold lkp
    show _ ↔ s ∉ p.1 :: keysM r
    by_cases e : p.1 = s
    · rw [if_pos e]
      exact ⟨fun h => (by cases h), fun h => absurd (show s ∈ p.1 :: keysM r by rw [e]; exact List.mem_cons_self) h⟩
    · rw [if_neg e, ih, List.mem_cons]
      exact ⟨fun h z => z.elim (fun q => e q.symm) h, fun h z => h (.inr z)⟩
theorem mem_lkp {m : LM} (nd : (keysM m).Nodup) {p : Str × Addr × List Str} (h : p ∈ m) : lkp m p.1 = some p.2 := by
  induction m with
  | nil => cases h
  | cons q r ih =>
    have nd' : (q.1 :: keysM r).Nodup := nd
    rw [List.nodup_cons] at nd'
    unfold lkp
    rcases List.mem_cons.mp h with e | e
    · rw [e, if_pos rfl]
    · rw [if_neg (fun z => nd'.1 (by rw [z]; exact List.mem_map_of_mem e))]
      exact ih nd'.2 e
theorem mem_put {m : LM} {s : Str} {q : Addr × List Str} {p : Str × Addr × List Str} (h : p ∈ putM m s q) : p ∈ m ∨ p = (s, q) := by
  unfold putM at h
  split at h
  · obtain ⟨r, hr, e⟩ := List.mem_map.mp h
    split at e
    · next c => rw [← e, c]; exact .inr rfl
    · rw [← e]; exact .inl hr
  · rcases List.mem_append.mp h with z | z
    · exact .inl z
    · exact .inr (List.mem_singleton.mp z)
theorem tot_put {m : LM} (nd : (keysM m).Nodup) (s x : Str) (p : Addr) : tot (putM m s (p, lof m s ++ [x])) = tot m + 1 := by
  unfold putM
  by_cases c : (m.any fun p => decide (p.1 = s)) = true
  · rw [if_pos c]
    have hs := any_keys.mp c
    clear c
    induction m with
    | nil => cases hs
    | cons q r ih =>
      have nd' : (q.1 :: keysM r).Nodup := nd
      rw [List.nodup_cons] at nd'
      by_cases e : q.1 = s
      · have hr : r.map (fun p_1 => if p_1.1 = s then (p_1.1, p, lof (q :: r) s ++ [x]) else p_1) = r := by
          refine (List.map_congr_left fun z hz => ?_).trans (List.map_id r)
          rw [if_neg (fun w => nd'.1 (by rw [e, ← w]; exact List.mem_map_of_mem hz))]
          rfl
        have el : lof (q :: r) s = q.2.2 := lof_pos e
        rw [List.map_cons, hr, if_pos e, el]
        unfold tot
        rw [List.map_cons, List.map_cons, List.sum_cons, List.sum_cons]
        show (q.2.2 ++ [x]).length + _ = _
        rw [List.length_append, List.length_singleton]
        omega
      · have el : lof (q :: r) s = lof r s := lof_neg e
        have ih' := ih nd'.2 ((List.mem_cons.mp hs).resolve_left fun z => e z.symm)
        rw [el, List.map_cons, if_neg e]
        unfold tot at ih' ⊢
        rw [List.map_cons, List.map_cons, List.sum_cons, List.sum_cons, ih']
        omega
  · rw [if_neg c]
    have el : lof m s = [] := by unfold lof; rw [lkp_none.mpr fun h => c (any_keys.mpr h)]
    rw [el]
    unfold tot
    rw [List.map_append, List.sum_append]
    rfl
/-- the other names' lists -/
theorem rest_of (m : LM) (s : Str) : ∃ r : List Str, (lof m s).length + r.length = tot m ∧ ∀ x ∈ uni m, x ∈ lof m s ∨ x ∈ r := by
  induction m with
  | nil => exact ⟨[], rfl, fun x h => by cases h⟩
  | cons p r ih =>
    by_cases e : p.1 = s
    · have el : lof (p :: r) s = p.2.2 := lof_pos e
      refine ⟨uni r, ?_, fun x h => ?_⟩
      · rw [el, uni_len]
        unfold tot
        rw [List.map_cons, List.sum_cons]
      · rw [el]
        unfold uni at h ⊢
        rw [List.map_cons, List.flatten_cons] at h
        exact List.mem_append.mp h
    · obtain ⟨t, h1, h2⟩ := ih
      have el : lof (p :: r) s = lof r s := lof_neg e
      refine ⟨p.2.2 ++ t, ?_, fun x h => ?_⟩
      · rw [el]
        unfold tot at h1 ⊢
        rw [List.map_cons, List.sum_cons, List.length_append]
        omega
      · rw [el]
        unfold uni at h
        rw [List.map_cons, List.flatten_cons] at h
        rcases List.mem_append.mp h with q | q
        · exact .inr (List.mem_append_left _ q)
        · exact (h2 x q).imp id fun z => List.mem_append_right _ z
/-! ### the law's own search: a list that grows while it is walked -/
structure Bfs (m : LM) (s : Str) (due : List Str) (k : Nat) : Prop where
  le : k ≤ due.length
  new : ∃ nw, due = lof m s ++ nw ∧ nw.Nodup ∧ ∀ x ∈ nw, x ∉ lof m s
  r : ∀ x ∈ due, Rch (lof m) s x
  cl : ∀ i x, i < k → due[i]? = some x → ∀ y ∈ lof m x, y ∈ due
theorem Bfs.start (m : LM) (s : Str) : Bfs m s (lof m s) 0 := ⟨Nat.zero_le _, ⟨[], (List.append_nil _).symm, .nil, fun x h => by cases h⟩, fun x h => .one h, fun i x h => by omega⟩
theorem Bfs.len {m : LM} {s : Str} {due : List Str} {k : Nat} (h : Bfs m s due k) : due.length ≤ tot m := by
  obtain ⟨nw, e, nd, hn⟩ := h.new
  obtain ⟨r, h1, h2⟩ := rest_of m s
  have : nw.length ≤ r.length := nodup_sub nd fun x hx => (h2 x ((h.r x (by rw [e]; exact List.mem_append_right _ hx)).uni)).resolve_left (hn x hx)
  rw [e, List.length_append]
  omega
/-- a part of the list of the name at k was walked -/
structure Bfs1 (m : LM) (s : Str) (due0 due : List Str) (k : Nat) (l : List Str) (i : Nat) : Prop where
  b : Bfs m s due k
  pre : ∃ z, due = due0 ++ z
  got : ∀ y ∈ l.take i, y ∈ due
theorem Bfs1.start {m : LM} {s : Str} {due : List Str} {k : Nat} (h : Bfs m s due k) (l : List Str) : Bfs1 m s due due k l 0 := ⟨h, ⟨[], (List.append_nil _).symm⟩, fun y hy => by cases hy⟩
theorem Bfs1.step {m : LM} {s n : Str} {due0 due : List Str} {k i : Nat} {y : Str} (h : Bfs1 m s due0 due k (lof m n) i) (hn : due0[k]? = some n) (hy : (lof m n)[i]? = some y) : Bfs1 m s due0 (addN due y) k (lof m n) (i + 1) := by
  obtain ⟨z, ez⟩ := h.pre
  have hkn : due[k]? = some n := by
    rw [ez, List.getElem?_append_left (List.getElem?_eq_some_iff.mp hn).1]
    exact hn
  have rn : Rch (lof m) s n := h.b.r n (List.mem_of_getElem? hkn)
  have ry : Rch (lof m) s y := .more rn (List.mem_of_getElem? hy)
  have sub : ∀ x ∈ due, x ∈ addN due y := fun x hx => mem_addN.mpr (.inl hx)
  have pre : ∃ t, addN due y = due ++ t := by
    unfold addN
    split
    · exact ⟨[], (List.append_nil _).symm⟩
    · exact ⟨[y], rfl⟩
  obtain ⟨t, et⟩ := pre
  refine ⟨⟨?_, ?_, fun x hx => ?_, fun j x hj hx w hw => ?_⟩, ⟨z ++ t, by rw [et, ez, List.append_assoc]⟩, fun w hw => ?_⟩
  · rw [et, List.length_append]; exact Nat.le_trans h.b.le (Nat.le_add_right _ _)
  · obtain ⟨nw, e, nd, hno⟩ := h.b.new
    unfold addN
    split
    · exact ⟨nw, e, nd, hno⟩
    · next c =>
      refine ⟨nw ++ [y], by rw [e, List.append_assoc], ?_, fun x hx => ?_⟩
      · rw [List.nodup_append]
        exact ⟨nd, by simp, fun a ha b hb w => c (by rw [e, ← List.mem_singleton.mp hb, ← w]; exact List.mem_append_right _ ha)⟩
      · rcases List.mem_append.mp hx with q | q
        · exact hno x q
        · rw [List.mem_singleton.mp q]
          exact fun w => c (by rw [e]; exact List.mem_append_left _ w)
  · rcases mem_addN.mp hx with q | q
    · exact h.b.r x q
    · rw [q]; exact ry
  · rw [et, List.getElem?_append_left (by have := h.b.le; omega)] at hx
    exact sub w (h.b.cl j x hj hx w hw)
  · rw [take_more hy] at hw
    rcases List.mem_append.mp hw with q | q
    · exact sub w (h.got w q)
    · exact mem_addN.mpr (.inr (List.mem_singleton.mp q))
theorem Bfs1.done {m : LM} {s n : Str} {due0 due : List Str} {k i : Nat} (h : Bfs1 m s due0 due k (lof m n) i) (hn : due0[k]? = some n) (hi : (lof m n).length ≤ i) : Bfs m s due (k + 1) := by
  obtain ⟨z, ez⟩ := h.pre
  have hlt := (List.getElem?_eq_some_iff.mp hn).1
  have hkn : due[k]? = some n := by
    rw [ez, List.getElem?_append_left hlt]
    exact hn
  refine ⟨by rw [ez, List.length_append]; omega, h.b.new, h.b.r, fun j x hj hx => ?_⟩
  by_cases c : j = k
  · subst c
    rw [hkn] at hx
    cases hx
    intro y hy
    exact h.got y (by rw [List.take_of_length_le hi]; exact hy)
  · exact h.b.cl j x (by omega) hx
theorem Bfs.done {m : LM} {s : Str} {due : List Str} {k : Nat} (h : Bfs m s due k) (e : ¬ k < due.length) (x : Str) : x ∈ due ↔ Rch (lof m) s x := by
  refine ⟨h.r x, fun r => r.closed (S := fun x => x ∈ due) (fun y hy => ?_) fun y hy z hz => ?_⟩
  · obtain ⟨nw, e, _⟩ := h.new
    rw [e]; exact List.mem_append_left _ hy
  · obtain ⟨i, hi, e2⟩ := List.mem_iff_getElem.mp hy
    exact h.cl i y (by have := h.le; omega) (by rw [List.getElem?_eq_getElem hi, e2]) z hz
theorem putM_new {m : LM} {s : Str} (h : s ∉ keysM m) (q : Addr × List Str) : putM m s q = m ++ [(s, q)] := by
  unfold putM
  rw [if_neg (fun c => h (any_keys.mp c))]
theorem not_tk {m : LM} (nd : (keysM m).Nodup) {i : Nat} {p : Str × Addr × List Str} (hi : m[i]? = some p) : p.1 ∉ keysM (m.take i) := fun h => by
  have e1 : keysM (m.take i) = (keysM m).take i := List.map_take
  rw [e1] at h
  have hi' : (keysM m)[i]? = some p.1 := by unfold keysM; rw [List.getElem?_map, hi]; rfl
  obtain ⟨j, hj, e⟩ := List.mem_take_iff_getElem.mp h
  have hlt := (List.getElem?_eq_some_iff.mp hi').1
  have e2 := (List.getElem?_eq_some_iff.mp hi').2
  have := (List.getElem_inj (h₀ := by omega) (h₁ := hlt) nd).mp (e.trans e2.symm)
  omega
/-! ### a dict of lists and its copy are equal -/
theorem eq_strs {K : PySem.W.Frag} {H : Hp} : ∀ l : List Str, Paired (EqV K H 1) (l.map V.str) (l.map V.str)
  | [] => .nil
  | s :: r => .cons (.inl ⟨rfl, rfl⟩) (eq_strs r)
/-- the same names with the same lists, elsewhere -/
def SameM (m m' : LM) : Prop := m.map (fun p => (p.1, p.2.2)) = m'.map (fun p => (p.1, p.2.2))
theorem SameM.lof {m m' : LM} (h : SameM m m') (s : Str) : lof m s = lof m' s := by
  unfold SameM at h
  induction m generalizing m' with
  | nil =>
    cases m' with
    | nil => rfl
    | cons => simp at h
  | cons p r ih =>
    cases m' with
    | nil => simp at h
    | cons p' r' =>
      rw [List.map_cons, List.map_cons, List.cons.injEq] at h
      have e1 : p.1 = p'.1 := (Prod.mk.inj h.1).1
      have e2 : p.2.2 = p'.2.2 := (Prod.mk.inj h.1).2
      have i2 := ih h.2
      by_cases c : p'.1 = s
      · rw [lof_pos (e1.trans c), lof_pos c, e2]
      · rw [lof_neg (fun z => c (e1.symm.trans z)), lof_neg c, i2]
theorem SameM.tot {m m' : LM} (h : SameM m m') : tot m = tot m' := by
  have : (m.map (fun p => (p.1, p.2.2))).map (fun q => q.2.length) = (m'.map (fun p => (p.1, p.2.2))).map (fun q => q.2.length) := by rw [h]
  rw [List.map_map, List.map_map] at this
  unfold Aw.tot
  exact congrArg List.sum this
theorem SameM.len {m m' : LM} (h : SameM m m') : m.length = m'.length := by
  have := congrArg List.length h
  simpa using this
theorem SameM.keys {m m' : LM} (h : SameM m m') : keysM m = keysM m' := by
  have : (m.map (fun p => (p.1, p.2.2))).map (·.1) = (m'.map (fun p => (p.1, p.2.2))).map (·.1) := by rw [h]
  rw [List.map_map, List.map_map] at this
  exact this
theorem eq_dicts {K : PySem.W.Frag} {H : Hp} {D D' : Addr} {m m' : LM} (h : LAt H D m) (h' : LAt H D' m') (e : SameM m m') (nd : (keysM m).Nodup) : EqR K H (EqV K H 2) (.ref D) (.ref D') := by
  refine .inr ⟨D, D', kvL m, kvL m', rfl, rfl, h.d, h'.d, by unfold kvL; rw [List.length_map, List.length_map, e.len], fun p hp => ?_⟩
  obtain ⟨q, hq, eq⟩ := List.mem_map.mp hp
  subst eq
  have l1 := mem_lkp nd hq
  have nn : lkp m' q.1 ≠ none := fun z => (lkp_none.mp z) (by rw [← e.keys]; exact List.mem_map_of_mem hq)
  obtain ⟨q', hq'⟩ := Option.ne_none_iff_exists'.mp nn
  have l2 := lkp_mem hq'
  have ll : q.2.2 = q'.2 := by
    have := e.lof q.1
    unfold lof at this
    rw [l1, hq'] at this
    exact this
  refine ⟨.ref q'.1, by show valV (kvL m') (Sum.inr q.1) = _; rw [kvL_val, hq']; rfl, ?_⟩
  refine .inr (.inr (.inl ⟨q.2.1, q'.1, _, _, rfl, rfl, SqL.of (h.l _ hq), SqL.of (h'.l _ l2), ?_⟩))
  rw [ll]
  exact eq_strs _
end Aw

namespace Aw
open PySem L2
def top (i : Nat) : Stmt := PySem.Challenge.pw_anewhall_k06_where_names_lead.main.body.getD i (.Pass ⟨0, 0, 0, 0⟩)
abbrev s_led_to : Stmt := top 1
/- slots 0:name 1:leans -/
theorem sc_led_to : FnScope ["name", "leans"] ["name", "leans"] (defScope s_led_to) := ⟨rfl, rfl, rfl, by decide +kernel, rfl, by decide +kernel, by decide +kernel⟩
abbrev s_reached : Stmt := top 2
/- slots 0:name 1:leans 2:found 3:waiting 4:other -/
theorem sc_reached : FnScope ["name", "leans", "found", "waiting", "other"] ["name", "leans"] (defScope s_reached) := ⟨rfl, rfl, rfl, by decide +kernel, rfl, by decide +kernel, by decide +kernel⟩
abbrev s_law_cell_at : Stmt := top 4
/- slots 0:_law_script 1:_law_k -/
theorem sc_law_cell_at : FnScope ["_law_script", "_law_k"] ["_law_script", "_law_k"] (defScope s_law_cell_at) := ⟨rfl, rfl, rfl, by decide +kernel, rfl, by decide +kernel, by decide +kernel⟩
abbrev s_law_names : Stmt := top 5
/- slots 0:_law_cell 1:_law_many 2:_law_letters 3:_law_size 4:_law_at 5:_law_out 6:_law_k 7:_law_name 8:_law_place 9:_law_step -/
theorem sc_law_names : FnScope ["_law_cell", "_law_many", "_law_letters", "_law_size", "_law_at", "_law_out", "_law_k", "_law_name", "_law_place", "_law_step"] ["_law_cell", "_law_many"] (defScope s_law_names) := ⟨rfl, rfl, rfl, by decide +kernel, rfl, by decide +kernel, by decide +kernel⟩
abbrev s_law_leans : Stmt := top 6
/- slots 0:_law_cells 1:_law_names_here 2:_law_leans_here 3:_law_cell 4:_law_one -/
theorem sc_law_leans : FnScope ["_law_cells", "_law_names_here", "_law_leans_here", "_law_cell", "_law_one"] ["_law_cells", "_law_names_here"] (defScope s_law_leans) := ⟨rfl, rfl, rfl, by decide +kernel, rfl, by decide +kernel, by decide +kernel⟩
abbrev s_law : Stmt := top 7
/- slots 0:_law_script 1:_law_names_here 2:_law_leans_here 3:_law_begin 4:_law_k 5:_law_due 6:_law_other 7:_law_handed 8:_law_name 9:_law_found 10:_law_once -/
theorem sc_law : FnScope ["_law_script", "_law_names_here", "_law_leans_here", "_law_begin", "_law_k", "_law_due", "_law_other", "_law_handed", "_law_name", "_law_found", "_law_once"] ["_law_script"] (defScope s_law) := ⟨rfl, rfl, rfl, by decide +kernel, rfl, by decide +kernel, by decide +kernel⟩
end Aw

namespace Aw
open PySem L2
/-! ### common to all rows -/
theorem len_sg1 (c : Nat) : (sg1 c).length = 1 := rfl
theorem len_app (a b : Str) : (a ++ b).length = a.length + b.length := by
  show (a.cps ++ b.cps).size = _
  rw [Array.size_append] <;> rfl
theorem big {n : Nat} (h : n ≤ 100000) : n ≤ sizeLine := Nat.le_trans h (by decide)
end Aw

namespace Aw
open PySem L2
/-! ### the law's own helpers -/
def spCell (K : PySem.W.Frag) : Sp := fun vs H Q _ => ∃ (a : Addr) (ns : List Int) (k : Nat), vs = [.ref a, .int k] ∧ SqL K H a (ns.map V.int) ∧ ns.length ≤ 63 ∧ ∀ i : Int, Q (.int i) H
def spNames : Sp := fun vs H Q _ => ∃ (c m : Int), vs = [.int c, .int m] ∧ 0 ≤ m ∧ m ≤ 100 ∧ ∀ (l : Addr) (H' : Hp) (nms : List Str), Same H H' → H l = none → H' l = some (.lst (nms.map V.str)) → (nms.length : Int) = m → (∀ s ∈ nms, NameOk s) → Q (.ref l) H'
structure TxtL (K : PySem.W.Frag) (mg : Str → Option Value) : Prop where
  len : mg "len" = none
  int : mg "int" = none
  range : mg "range" = none
  str : mg "str" = none
section
variable {P : Program} {w : World} {K : PySem.W.Frag} {mg : Str → Option Value} {base : Heap} {f : Addr} {fd : FuncData}
theorem ok_cell (F : Fun K "_law_cell_at" "_law_cell_at" s_law_cell_at f fd) (T : TxtL K mg) : FnOk P w K mg base CX0 1 f fd ["_law_script", "_law_k"] (spCell K) := by
  refine F.ok sc_law_cell_at (fun vs H Q E h => ?_) (fun cdv A outer s H vs Q E hr h => ?_)
  · obtain ⟨a, ns, k, rfl, _⟩ := h
    rfl
  obtain ⟨a, ns, k, rfl, hS, h63, q⟩ := h
  refine ⟨_, pss_cons (ps_if (pt_cmpR op_lt (pv 1) (pe_callB call_len_seq (by rfl) T.len PySem.boot_len (pa_cons (pv 0) pa_nil)) (nomark _)) (pss_one (ps_ret (pe_ix ix_list (pv 0) (pv 1) (fun _ _ => rfl)))) pss_nil)
    (pss_one (ps_ret pe_int)), ?_⟩
  refine ⟨_, rfl, _, rfl, a, _, rfl, .inl hS, _, _, rfl, rfl, _, rfl, ?_⟩
  refine ite2 (fun c => ?_) (fun c => ?_)
  · have c' : (k : Int) < (((ns.map V.int).length : Nat) : Int) := of_decide_eq_true c
    rw [List.length_map] at c'
    have hk : k < ns.length := by omega
    refine ⟨_, rfl, _, rfl, a, _, _, _, rfl, rfl, hS, atI_nat (v := .int ns[k]) ?_, q _⟩
    rw [List.getElem?_map, List.getElem?_eq_getElem hk]
    rfl
  · exact q 0
end
end Aw

namespace Aw
open PySem L2
section
variable {P : Program} {w : World} {K : PySem.W.Frag} {mg : Str → Option Value} {base : Heap} {f : Addr} {fd : FuncData}
theorem let_at {n : Int} (h0 : 0 ≤ n) (h1 : n < 26) : ∃ c, c ∈ LET ∧ atI (("abcdefghijklmnopqrstuvwxyz" : Str)).cps.toList n = some c := by
  have hk : n.toNat < LET.length := by
    have e : LET.length = 26 := by decide +kernel
    omega
  refine ⟨LET[n.toNat], List.getElem_mem hk, ?_⟩
  have q : atI LET ((n.toNat : Nat) : Int) = some LET[n.toNat] := atI_nat (List.getElem?_eq_getElem hk)
  rwa [show ((n.toNat : Nat) : Int) = n by omega] at q
theorem nameOk_of {z : Str} (h1 : 1 ≤ z.length) (h6 : z.length ≤ 6) (h : ∀ c ∈ z.cps.toList, c ∈ LET) : NameOk z := by
  unfold NameOk nameM
  rw [decide_eq_true (show 1 ≤ z.length ∧ z.length ≤ 6 from ⟨h1, h6⟩), Bool.true_and, List.all_eq_true]
  exact fun c hc => decide_eq_true (h c hc)
theorem mem_app1 {z : Str} {c : Nat} (h : ∀ x ∈ z.cps.toList, x ∈ LET) (hc : c ∈ LET) : ∀ x ∈ (z ++ sg1 c).cps.toList, x ∈ LET := by
  intro x hx
  have e : (z ++ sg1 c).cps.toList = z.cps.toList ++ [c] := by
    show (z.cps ++ #[c]).toList = _
    rw [Array.toList_append]
  rw [e] at hx
  rcases List.mem_append.mp hx with q | q
  · exact h x q
  · rw [List.mem_singleton.mp q]; exact hc
theorem ok_names (F : Fun K "_law_names" "_law_names" s_law_names f fd) (T : TxtL K mg) : FnOk P w K mg base CX0 1 f fd ["_law_cell", "_law_many"] spNames := by
  refine F.ok sc_law_names (fun vs H Q E h => ?_) (fun cdv A outer s H vs Q E hr h => ?_)
  · obtain ⟨c, m, rfl, _⟩ := h
    rfl
  obtain ⟨c, m, rfl, m0, m1, q⟩ := h
  have nd := sc_law_names.nd
  refine ⟨_, pss_cons (ps_set (i := 2) nd rfl (.inl rfl) pe_str)
    (pss_cons (ps_set (i := 3) nd rfl (.inl rfl) (pe_op op_add pe_int (pe_op op_mod (pv 0) pe_int)))
    (pss_cons (ps_set (i := 4) nd rfl (.inl rfl) (pe_op op_mod (pe_op op_fdiv (pv 0) pe_int) (pv 3)))
    (pss_cons (ps_set (i := 5) nd rfl (.inl rfl) (pe_lst pa_nil))
    (pss_cons (ps_for PassesOwn.never rfl (pi_range1 rfl T.range (pa_cons (pv 1) pa_nil)) (pg_name (i := 6) nd rfl (.inl rfl))
      (pss_cons (ps_set (i := 7) nd rfl (.inl rfl) pe_str)
      (pss_cons (ps_for PassesOwn.never rfl (pi_range1 rfl T.range (pa_cons (pv 3) pa_nil)) (pg_name (i := 8) nd rfl (.inl rfl))
        (pss_cons (ps_set (i := 9) nd rfl (.inl rfl) (pe_op op_add (pe_op op_mod (pe_op op_fdiv (pv 0) pe_int) pe_int) (pe_op op_mul pe_int (pv 8))))
        (pss_cons (ps_if (pt_cmpR op_eq (pv 8) (pv 4) (nomark _)) (pss_one (ps_set (i := 9) nd rfl (.inl rfl) (pe_op op_add (pv 9) (pv 6)))) pss_nil)
        (pss_one (ps_set (i := 7) nd rfl (.inl rfl) (pe_op op_add_str (pv 7) (pe_ix ix_str (pv 2) (pe_op op_mod (pv 9) pe_int) (fun _ _ => rfl))))))))
      (pss_one (ps_expr (pe_bm PySem.F.plainAttrs_list PySem.F.slot_list_append PySem.F.type_list_append mt_append (pv 5) (pa_cons (pv 7) pa_nil)))))))
    (pss_one (ps_ret (pv 5))))))), ?_⟩
  have hs0 : 0 ≤ c % 6 := Int.emod_nonneg _ (by decide)
  have hs1 : c % 6 < 6 := Int.emod_lt_of_pos _ (by decide)
  refine ⟨_, rfl, _, _, rfl, rfl, (by show (0 : Int) < 6; decide), _, _, rfl, rfl, ?_⟩
  refine ⟨_, rfl, _, _, rfl, rfl, ⟨by decide, by decide⟩, _, rfl, _, _, rfl, rfl, (by show 0 < 1 + c % 6; omega), ?_⟩
  refine ⟨(by show 0 ≤ sizeLine; decide), fun l hl => ?_⟩
  refine ⟨_, rfl, m, rfl, by omega, by omega, ?_⟩
  refine for_range (lo := 0) (n := m.toNat) (fun i σ H' => ∃ (nms : List Str) (v6 v7 v8 v9 : Option V), σ = [some (.int c), some (.int m), some (.str "abcdefghijklmnopqrstuvwxyz"), some (.int (1 + c % 6)), some (.int (c / 6 % (1 + c % 6))), some (.ref l), v6, v7, v8, v9] ∧
    Same H H' ∧ H' l = some (.lst (nms.map V.str)) ∧ nms.length = i ∧ ∀ s ∈ nms, NameOk s) ⟨[], none, none, none, none, rfl, same_new hl _, upd_same, rfl, fun s hs => by cases hs⟩ ?_ ?_
  · rintro i σ H1 hi ⟨nms, v6, v7, v8, v9, rfl, s1, e1, hlen, hok⟩
    refine ⟨_, rfl, 1 + c % 6, rfl, by omega, by omega, ?_⟩
    refine for_range (lo := 0) (n := (1 + c % 6).toNat) (fun j σ H' => ∃ (z : Str) (v8 v9 : Option V), σ = [some (.int c), some (.int m), some (.str "abcdefghijklmnopqrstuvwxyz"), some (.int (1 + c % 6)), some (.int (c / 6 % (1 + c % 6))), some (.ref l), some (.int (0 + (i : Int))), some (.str z), v8, v9] ∧
      H' = H1 ∧ z.length = j ∧ ∀ x ∈ z.cps.toList, x ∈ LET) ⟨Str.empty, _, _, rfl, rfl, rfl, fun x hx => by cases hx⟩ ?_ ?_
    · rintro j σ H2 hj ⟨z, v8, v9, rfl, rfl, hz, hl'⟩
      refine ⟨_, rfl, _, _, rfl, rfl, ⟨by decide, by decide⟩, _, _, rfl, rfl, (by show (0 : Int) < 26; decide), _, rfl, _, _, rfl, rfl, .inl ⟨by decide, by decide⟩, _, _, rfl, rfl, ?_⟩
      refine ⟨_, rfl, _, rfl, rfl, _, rfl, ?_⟩
      have hz6 : (j : Int) < 6 := by omega
      refine ite2 (fun _ => ?_) (fun _ => ?_)
      · refine ⟨_, rfl, _, rfl, _, _, rfl, rfl, ?_⟩
        obtain ⟨ch, hc, ec⟩ := let_at (n := (c / 36 % 26 + 5 * (0 + (j : Int)) + (0 + (i : Int))) % 26) (Int.emod_nonneg _ (by decide)) (Int.emod_lt_of_pos _ (by decide))
        refine ⟨_, rfl, _, rfl, _, rfl, _, _, rfl, rfl, (by show (0 : Int) < 26; decide), _, _, ch, rfl, rfl, (by decide +kernel), ec, z, sg1 ch, rfl, rfl, big (by rw [len_sg1]; omega), ?_⟩
        exact ⟨z ++ sg1 ch, _, _, rfl, rfl, by rw [len_app, len_sg1, hz], mem_app1 hl' hc⟩
      · obtain ⟨ch, hc, ec⟩ := let_at (n := (c / 36 % 26 + 5 * (0 + (j : Int))) % 26) (Int.emod_nonneg _ (by decide)) (Int.emod_lt_of_pos _ (by decide))
        refine ⟨_, rfl, _, rfl, _, rfl, _, _, rfl, rfl, (by show (0 : Int) < 26; decide), _, _, ch, rfl, rfl, (by decide +kernel), ec, z, sg1 ch, rfl, rfl, big (by rw [len_sg1]; omega), ?_⟩
        exact ⟨z ++ sg1 ch, _, _, rfl, rfl, by rw [len_app, len_sg1, hz], mem_app1 hl' hc⟩
    · rintro σ H2 ⟨z, v8, v9, rfl, rfl, hz, hl'⟩
      refine ⟨_, rfl, .inl ⟨rfl, _, SqL.of e1⟩, _, rfl, l, _, _, rfl, rfl, e1, small1000 (by rw [List.length_map]; omega), ?_⟩
      refine ⟨nms ++ [z], _, _, _, _, rfl, same_upd s1 hl _, (by rw [upd_same, List.map_append]; rfl), by rw [List.length_append, List.length_singleton, hlen], fun s hs => ?_⟩
      rcases List.mem_append.mp hs with q | q
      · exact hok s q
      · rw [List.mem_singleton.mp q]
        exact nameOk_of (by omega) (by omega) hl'
  · rintro σ H1 ⟨nms, v6, v7, v8, v9, rfl, s1, e1, hlen, hok⟩
    exact ⟨_, rfl, q l H1 nms s1 hl e1 (by omega) hok⟩
end
end Aw

namespace Aw
open PySem L2
/-! ### where names lead: reached -/
def spReached : Sp := fun vs H Q _ => ∃ (s : Str) (D : Addr) (m : LM), vs = [.str s, .ref D] ∧ LAt H D m ∧ tot m ≤ 300 ∧
  ∀ (p : Addr) (fd : List Str) (H' : Hp), Same H H' → H p = none → H' p = some (.dK (nkvs fd)) → fd.Nodup → (∀ x, x ∈ fd ↔ Rch (lof m) s x) → Q (.ref p) H'
theorem nkvs_has (l : List Str) (s : Str) : (valV (nkvs l) (Sum.inr s)).isSome = decide (s ∈ l) := by
  induction l with
  | nil => rfl
  | cons a r ih =>
    show (valV ((Sum.inr a, V.bl true) :: nkvs r) (Sum.inr s)).isSome = _
    by_cases e : a = s
    · subst e
      rw [valV_pos rfl]
      simp
    · rw [valV_neg (fun z => e (Sum.inr.inj z)), ih]
      have : (s ∈ a :: r) ↔ s ∈ r := by
        rw [List.mem_cons]
        exact ⟨fun h => h.elim (fun z => absurd z.symm e) id, .inr⟩
      exact (decide_eq_decide.mpr this).symm
section
variable {P : Program} {w : World} {K : PySem.W.Frag} {mg : Str → Option Value} {base : Heap} {f : Addr} {fd : FuncData}
/-- what d.get(s, []) leaves, [] being new at e -/
theorem get_at {H H1 : Hp} {D e : Addr} {m : LM} (h : LAt H D m) (s1 : Same H H1) (h1 : H1 e = some (.lst [])) (s : Str) :
    ∃ b, ((lkp m s).map fun p => V.ref p.1).getD (.ref e) = .ref b ∧ H1 b = some (.lst ((lof m s).map V.str)) := by
  unfold lof
  cases q : lkp m s with
  | none => exact ⟨e, rfl, h1⟩
  | some p => exact ⟨p.1, rfl, s1 _ _ (h.l _ (lkp_mem q))⟩
theorem ok_reached (F : Fun K "reached" "reached" s_reached f fd) (zl : mg "list" = none) : FnOk P w K mg base CX0 1 f fd ["name", "leans"] spReached := by
  refine F.ok sc_reached (fun vs H Q E h => ?_) (fun cdv A outer s H vs Q E hr h => ?_)
  · obtain ⟨s, D, m, rfl, _⟩ := h
    rfl
  obtain ⟨s0, D, m, rfl, hL, ht, q⟩ := h
  have nd := sc_reached.nd
  refine ⟨_, pss_cons (ps_set (i := 2) nd rfl (.inl rfl) pe_dnewK)
    (pss_cons (ps_set (i := 3) nd rfl (.inl rfl) (pe_callTy call_list_of (by rfl) zl (by decide +kernel) (pa_cons (pe_dget2 (hu_of hr) (pv 1) (pv 0) (pe_lst pa_nil) ⟨rfl, rfl, rfl, rfl⟩) pa_nil)))
    (pss_cons (ps_while PassesOwn.never (pt_truth (pv 3) (by intro _; rfl))
      (pss_cons (ps_set (i := 4) nd rfl (.inl rfl) (pe_bm0 PySem.F.plainAttrs_list PySem.F.slot_list_pop PySem.F.type_list_pop mt_pop (pv 3)))
      (pss_one (ps_if (pt_cmp (pc_dnotin (hu_of hr) (pv 4) (pv 2)))
        (pss_cons (ps_dput (hu_of hr) (pv 2) (pv 4) pe_bl rfl)
        (pss_one (ps_expr (pe_bm PySem.F.plainAttrs_list PySem.F.slot_list_extend PySem.F.type_list_extend mt_extend (pv 3) (pa_cons (pe_dget2 (hu_of hr) (pv 1) (pv 4) (pe_lst pa_nil) ⟨rfl, rfl, rfl, rfl⟩) pa_nil))))) pss_nil))))
    (pss_one (ps_ret (pv 2))))), ?_⟩
  refine fun pf hf => ?_
  have s1 := same_new hf (.dK [])
  have L1 := hL.mono s1
  refine ⟨_, rfl, D, rfl, .inl ⟨_, .inl L1.d⟩, _, rfl, (by show 0 ≤ sizeLine; decide), fun e0 he0 => ?_⟩
  have s2 := same_new he0 (.lst [])
  refine ⟨_, DGet.k (k := Sum.inr s0) (L1.mono s2).d, ?_⟩
  rw [kvL_val]
  obtain ⟨b0, eb0, hb0⟩ := get_at L1 s2 upd_same s0
  rw [eb0]
  refine ⟨b0, _, rfl, .inl (SqL.of hb0), fun pw hw => ?_⟩
  have s3 := same_new hw (.lst ((lof m s0).map V.str))
  have s13 := (s1.trans s2).trans s3
  have hwf : pf ≠ pw := ne_of_none (s2 _ _ upd_same) hw
  have hw0 : H pw = none := (s1.trans s2).free hw
  refine ⟨fun n σ H' => ∃ (fd wt : List Str) (v4 : Option V), σ = [some (.str s0), some (.ref D), some (.ref pf), some (.ref pw), v4] ∧ n = seekM m fd wt ∧ Same H H' ∧ H' pf = some (.dK (nkvs fd)) ∧ H' pw = some (.lst (wt.map V.str)) ∧ Seek m s0 fd wt,
    ⟨_, [], lof m s0, none, rfl, rfl, s13, (by rw [upd_ne hwf, upd_ne (ne_of_none upd_same he0)]; exact upd_same), upd_same, Seek.start m s0⟩, ?_⟩
  · rintro n σ H1 ⟨fd, wt, v4, rfl, rfl, sH, ef, ew, sk⟩
    refine ⟨_, rfl, _, .inl ⟨_, SqL.of ew, rfl⟩, ?_⟩
    cases hwt : wt with
    | nil =>
      subst hwt
      refine iteF ?_
      exact ⟨_, rfl, q pf fd H1 sH hf ef sk.nd sk.done⟩
    | cons x0 r0 =>
      rw [← hwt]
      have hlen : 0 < wt.length := by rw [hwt]; exact Nat.succ_pos _
      obtain ⟨o, ho⟩ : ∃ o, wt[wt.length - 1]? = some o := ⟨_, List.getElem?_eq_getElem (by omega)⟩
      have fl := sk.fl
      have wl := sk.ln
      have wl2 : (fd.length + 1) * tot m ≤ 301 * 300 := Nat.mul_le_mul (by omega) ht
      rw [show (!(wt.map V.str).isEmpty) = true by rw [hwt]; rfl, if_pos rfl]
      refine ⟨fun σ' H' => ∃ (fd' wt' : List Str), σ' = [some (.str s0), some (.ref D), some (.ref pf), some (.ref pw), some (.str o)] ∧ seekM m fd' wt' < seekM m fd wt ∧ Same H H' ∧ H' pf = some (.dK (nkvs fd')) ∧ H' pw = some (.lst (wt'.map V.str)) ∧ Seek m s0 fd' wt', ?_, ?_⟩
      · rintro σ' H' ⟨fd', wt', rfl, lt, a1, a2, a3, a4⟩
        exact ⟨_, lt, fd', wt', _, rfl, rfl, a1, a2, a3, a4⟩
      refine ⟨_, rfl, .inl ⟨rfl, _, SqL.of ew⟩, pw, _, .str o, rfl, rfl, ew, (by rw [List.length_map, List.getElem?_map, ho]; rfl), ?_⟩
      have ef1 : (upd H1 pw (.lst (wt.map V.str).dropLast)) pf = some (.dK (nkvs fd)) := by rw [upd_ne hwf]; exact ef
      refine ⟨_, rfl, _, rfl, pf, _, rfl, DGet.k (k := Sum.inr o) ef1, _, rfl, ?_⟩
      rw [nkvs_has, ← List.map_dropLast]
      by_cases c : o ∈ fd
      · rw [decide_eq_true c]
        exact iteF ⟨fd, wt.dropLast, rfl, seekM_skip ho, same_upd sH hw0 _, (by rw [upd_ne hwf]; exact ef), upd_same, sk.skip ho c⟩
      · rw [decide_eq_false c]
        refine iteT ?_
        refine ⟨_, rfl, _, rfl, pf, _, rfl, DPut.k (k := Sum.inr o) (by rw [upd_ne hwf]; exact ef) (Nat.lt_of_le_of_lt (by unfold nkvs; rw [List.length_map]; omega : (nkvs fd).length ≤ 1000) (by decide)), ?_⟩
        rw [nkvs_put]
        have ea : addN fd o = fd ++ [o] := by unfold addN; rw [if_neg c]
        rw [ea]
        have sA := same_upd (same_upd sH hw0 (.lst (wt.dropLast.map V.str))) hf (.dK (nkvs (fd ++ [o])))
        have LA1 := hL.mono sA
        refine ⟨_, rfl, .inl ⟨rfl, _, SqL.of (by rw [upd_ne hwf.symm]; exact upd_same)⟩, ?_⟩
        refine ⟨_, rfl, D, rfl, .inl ⟨_, .inl LA1.d⟩, _, rfl, (by show 0 ≤ sizeLine; decide), fun e1 he1 => ?_⟩
        have s5 := same_new he1 (.lst [])
        refine ⟨_, DGet.k (k := Sum.inr o) (LA1.mono s5).d, ?_⟩
        rw [kvL_val]
        obtain ⟨b1, eb1, hb1⟩ := get_at LA1 s5 upd_same o
        rw [eb1]
        have ew5 := s5 pw _ (by rw [upd_ne hwf.symm]; exact upd_same)
        have ef5 := s5 pf _ upd_same
        have lo := lof_len m o
        refine ⟨pw, b1, _, _, rfl, rfl, ew5, hb1, ?_, ?_⟩
        · rw [List.length_map, List.length_map, List.length_dropLast]
          exact big (by omega)
        rw [← List.map_append]
        exact ⟨fd ++ [o], wt.dropLast ++ lof m o, rfl, seekM_step sk ho c, same_upd (sA.trans s5) hw0 _, (by rw [upd_ne hwf]; exact ef5), upd_same, sk.step ho c⟩
end
end Aw

namespace Aw
open PySem L2
/-! ### where names lead: led_to and the law -/
def spLed : Sp := fun vs H Q _ => ∃ (s : Str) (D : Addr) (m : LM), vs = [.str s, .ref D] ∧ LAt H D m ∧ tot m ≤ 63 ∧
  ∀ (p : Addr) (ys : List Str) (H' : Hp), Same H H' → H p = none → H' p = some (.lst (ys.map V.str)) → ys.Nodup → ys.Pairwise sle → (∀ x, x ∈ ys ↔ Rch (lof m) s x) → Q (.ref p) H'
def spLeans (K : PySem.W.Frag) : Sp := fun vs H Q _ => ∃ (a : Addr) (ns : List Int) (l : Addr) (nms : List Str), vs = [.ref a, .ref l] ∧ SqL K H a (ns.map V.int) ∧ ns.length ≤ 63 ∧ H l = some (.lst (nms.map V.str)) ∧ 1 ≤ nms.length ∧ nms.length ≤ 20 ∧
  ∀ (D : Addr) (m : LM) (H' : Hp), Same H H' → H D = none → LAt H' D m → (keysM m).Nodup → tot m = ns.length → (∀ p ∈ m, p.1 ∈ nms ∧ ∀ x ∈ p.2.2, x ∈ nms) → Q (.ref D) H'
theorem nkvs_fst (l : List Str) : (nkvs l).map (·.1) = l.map Sum.inr := by
  unfold nkvs
  rw [List.map_map]
  rfl
theorem at_mod {nms : List Str} (h : 1 ≤ nms.length) (c : Int) : ∃ s, s ∈ nms ∧ atI (nms.map V.str) (c % ((nms.map V.str).length : Nat)) = some (.str s) := by
  rw [List.length_map]
  have h0 : 0 ≤ c % (nms.length : Int) := Int.emod_nonneg _ (by omega)
  have h1 : c % (nms.length : Int) < nms.length := Int.emod_lt_of_pos _ (by omega)
  have hk : (c % (nms.length : Int)).toNat < nms.length := by omega
  refine ⟨nms[(c % (nms.length : Int)).toNat], List.getElem_mem hk, ?_⟩
  have q : atI (nms.map V.str) (((c % (nms.length : Int)).toNat : Nat) : Int) = some (.str nms[(c % (nms.length : Int)).toNat]) := atI_nat (by rw [List.getElem?_map, List.getElem?_eq_getElem hk]; rfl)
  rwa [show (((c % (nms.length : Int)).toNat : Nat) : Int) = c % (nms.length : Int) by omega] at q
section
variable {P : Program} {w : World} {K : PySem.W.Frag} {mg : Str → Option Value} {base : Heap} {f : Addr} {fd : FuncData}
theorem ok_led {g : Addr} {gd : FuncData} (F : Fun K "led_to" "led_to" s_led_to f fd) (zs : mg "sorted" = none) (G : FnOk P w K mg base CX0 1 g gd ["name", "leans"] spReached) (b : Binds K gd ["name", "leans"] []) (kG : PySem.W.keepIn K (.ref g) = true) (m : mg "reached" = some (.ref g)) :
    FnOk P w K mg base CX0 2 f fd ["name", "leans"] spLed := by
  refine F.ok sc_led_to (fun vs H Q E h => ?_) (fun cdv A outer s H vs Q E hr h => ?_)
  · obtain ⟨s, D, m, rfl, _⟩ := h
    rfl
  obtain ⟨s0, D, m0, rfl, hL, ht, q⟩ := h
  refine ⟨_, pss_one (ps_ret (pe_callB (call_sortedD rfl) (by rfl) zs (by decide +kernel) (pa_cons (pe_call G hr rfl m kG b .nil pass0 (pa_cons (pv 0) (pa_cons (pv 1) pa_nil))) pa_nil))), ?_⟩
  refine ⟨_, rfl, _, rfl, s0, D, m0, rfl, hL, by omega, fun p fd H1 s1 hn e1 nd hx => ?_⟩
  have fl : fd.length ≤ tot m0 := by
    rw [← uni_len]
    exact nodup_sub nd fun x h => ((hx x).mp h).uni
  refine ⟨p, nkvs fd, fd, rfl, .inl e1, nkvs_fst fd, by omega, fun ys r hp hs hr => ?_⟩
  exact q r ys _ (s1.trans (same_new hr _)) (s1.free hr) upd_same (hp.nodup_iff.mpr nd) (sorted_pair hs) fun x => by rw [hp.mem_iff]; exact hx x
theorem ok_leans (F : Fun K "_law_leans" "_law_leans" s_law_leans f fd) (zl : mg "len" = none) : FnOk P w K mg base CX0 1 f fd ["_law_cells", "_law_names_here"] (spLeans K) := by
  refine F.ok sc_law_leans (fun vs H Q E h => ?_) (fun cdv A outer s H vs Q E hr h => ?_)
  · obtain ⟨a, ns, l, nms, rfl, _⟩ := h
    rfl
  obtain ⟨a, ns, l, nms, rfl, hS, h63, hl, h1, h20, q⟩ := h
  have nd := sc_law_leans.nd
  refine ⟨_, pss_cons (ps_set (i := 2) nd rfl (.inl rfl) pe_dnewK)
    (pss_cons (ps_for PassesOwn.never rfl (pi_list (pv 0)) (pg_name (i := 3) nd rfl (.inl rfl))
      (pss_cons (ps_set (i := 4) nd rfl (.inl rfl) (pe_ix ix_list (pv 1) (pe_op op_mod (pv 3) (pe_callB call_len_seq (by rfl) zl PySem.boot_len (pa_cons (pv 1) pa_nil))) (fun _ _ => rfl)))
      (pss_one (ps_dput (hu_of hr) (pv 2) (pv 4) (pe_op op_cat (pe_dget2 (hu_of hr) (pv 2) (pv 4) (pe_lst pa_nil) ⟨rfl, rfl, rfl, rfl⟩)
        (pe_lst (pa_cons (pe_ix ix_list (pv 1) (pe_op op_mod (pe_op op_fdiv (pv 3) pe_int) (pe_callB call_len_seq (by rfl) zl PySem.boot_len (pa_cons (pv 1) pa_nil))) (fun _ _ => rfl)) pa_nil))) rfl))))
    (pss_one (ps_ret (pv 2)))), ?_⟩
  refine fun D hD => ?_
  have lpos : (0 : Int) < (((nms.map V.str).length : Nat) : Int) := by rw [List.length_map]; omega
  refine ⟨_, rfl, a, rfl, ⟨_, (same_new hD _).seq hS⟩, for_list (K := K) (a := a) (xs := ns.map V.int) (fun i σ H' => ∃ (v3 v4 : Option V) (m : LM), σ = [some (.ref a), some (.ref l), some (.ref D), v3, v4] ∧ Same H H' ∧ LAt H' D m ∧ (keysM m).Nodup ∧ tot m = i ∧ ∀ p ∈ m, p.1 ∈ nms ∧ ∀ x ∈ p.2.2, x ∈ nms)
    ⟨none, none, [], rfl, same_new hD _, ⟨upd_same, fun p hp => by cases hp⟩, .nil, rfl, fun p hp => by cases hp⟩ (fun i σ H' _ ⟨_, _, _, _, s, _⟩ => s.seq hS) ?_ ?_⟩
  · rintro i x σ H1 hi ⟨v3, v4, m, rfl, s1, L1, nk, ht, hm⟩
    obtain ⟨c, hc, rfl⟩ : ∃ c, ns[i]? = some c ∧ x = V.int c := by
      rw [List.getElem?_map] at hi
      cases ez : ns[i]? with
      | none => rw [ez] at hi; cases hi
      | some z => rw [ez] at hi; exact ⟨z, rfl, (Option.some.inj hi).symm⟩
    have hin : i < ns.length := (List.getElem?_eq_some_iff.mp hc).1
    have el := s1 _ _ hl
    obtain ⟨s5, hs5, e5⟩ := at_mod h1 c
    obtain ⟨s6, hs6, e6⟩ := at_mod h1 (c / 16)
    refine ⟨_, rfl, _, rfl, _, rfl, l, _, rfl, .inl (SqL.of el), _, _, rfl, rfl, lpos, l, _, _, _, rfl, rfl, SqL.of el, e5, ?_⟩
    refine ⟨_, rfl, D, rfl, .inl ⟨_, .inl L1.d⟩, _, rfl, (by show 0 ≤ sizeLine; decide), fun e0 he0 => ?_⟩
    have s2 := same_new he0 (.lst [])
    refine ⟨_, DGet.k (k := Sum.inr s5) (L1.mono s2).d, ?_⟩
    rw [kvL_val]
    obtain ⟨b0, eb0, hb0⟩ := get_at L1 s2 upd_same s5
    rw [eb0]
    have el2 := s2 _ _ el
    refine ⟨_, rfl, _, rfl, _, _, rfl, rfl, ⟨by decide, by decide⟩, _, rfl, l, _, rfl, .inl (SqL.of el2), _, _, rfl, rfl, lpos, l, _, _, _, rfl, rfl, SqL.of el2, e6, (by show 1 ≤ sizeLine; decide), fun b1 hb1 => ?_⟩
    have s3 := same_new hb1 (.lst [.str s6])
    have ll := lof_len m s5
    refine ⟨b0, b1, _, _, rfl, rfl, s3 _ _ hb0, upd_same, ?_, fun p hp => ?_⟩
    · rw [List.length_map]; exact big (by show (lof m s5).length + 1 ≤ 100000; omega)
    have s4 := same_new hp (.lst ((lof m s5).map V.str ++ [.str s6]))
    have S4 := (s2.trans s3).trans s4
    have L4 := L1.mono S4
    have ml : m.length ≤ nms.length := by
      have : (keysM m).length ≤ nms.length := nodup_sub nk fun x hx => by
        obtain ⟨p, hp, e⟩ := List.mem_map.mp hx
        rw [← e]; exact (hm p hp).1
      unfold keysM at this
      rwa [List.length_map] at this
    refine ⟨_, rfl, _, rfl, D, _, rfl, DPut.k (k := Sum.inr s5) L4.d ?_, ?_⟩
    · unfold kvL; rw [List.length_map]; exact small1000 (by omega)
    rw [kvL_put m s5 (p, lof m s5 ++ [s6])]
    have nDp : D ≠ p := ne_of_none ((s2.trans s3) _ _ L1.d) hp
    refine ⟨_, _, putM m s5 (p, lof m s5 ++ [s6]), rfl, same_upd (s1.trans S4) hD _, ⟨upd_same, fun r hr => ?_⟩, nodup_put nk _ _, by rw [tot_put nk]; omega, fun r hr => ?_⟩
    · rcases mem_put hr with z | z
      · rw [upd_ne (ne_of (L4.l r z) L4.d (by intro z; cases z))]
        exact L4.l r z
      · rw [z, upd_ne nDp.symm, List.map_append]
        exact upd_same
    · rcases mem_put hr with z | z
      · exact hm r z
      · rw [z]
        refine ⟨hs5, fun x hx => ?_⟩
        rcases List.mem_append.mp hx with y | y
        · unfold lof at y
          split at y
          · next e => exact (hm _ (lkp_mem e)).2 x y
          · cases y
        · rw [List.mem_singleton.mp y]; exact hs6
  · rintro σ H1 ⟨v3, v4, m, rfl, s1, L1, nk, ht, hm⟩
    rw [List.length_map] at ht
    exact ⟨_, rfl, q D m H1 s1 hD L1 nk ht hm⟩
end
end Aw

namespace Aw
open PySem L2
def spLaw (K : PySem.W.Frag) : Sp := fun vs H Q _ => ∃ (a : Addr) (ns : List Int), vs = [.ref a] ∧ SqL K H a (ns.map V.int) ∧ ns.length ≤ 63 ∧ ∀ H', Q (.bl true) H'
/-- a def of the top as it is called -/
structure Df (P : Program) (w : World) (K : PySem.W.Frag) (mg : Str → Option Value) (base : Heap) (CX : CXT) (k : Nat) (x : Str) (ps : List Str) (sp : Sp) (f : Addr) (fd : FuncData) : Prop where
  ok : FnOk P w K mg base CX k f fd ps sp
  b : Binds K fd ps []
  k : PySem.W.keepIn K (.ref f) = true
  m : mg x = some (.ref f)
theorem cut_int (ns : List Int) (lo : Option Int) : ∃ ns' : List Int, cutV (ns.map V.int) lo none = ns'.map V.int ∧ ns'.length ≤ ns.length := by
  unfold cutV
  refine ⟨(ns.drop (HT.sIx (ns.map V.int).length 0 lo)).take (HT.sIx (ns.map V.int).length (ns.map V.int).length none - HT.sIx (ns.map V.int).length 0 lo), ?_, ?_⟩
  · rw [List.map_take, List.map_drop]
  · rw [List.length_take, List.length_drop]; omega
end Aw

namespace Aw
open PySem L2
section
variable {P : Program} {w : World} {K : PySem.W.Frag} {mg : Str → Option Value} {base : Heap} {f : Addr} {fd : FuncData}
variable {f1 f2 f3 f4 : Addr} {d1 d2 d3 d4 : FuncData}
structure TxtK6 (mg : Str → Option Value) : Prop where
  len : mg "len" = none
  list : mg "list" = none
  sorted : mg "sorted" = none
  isi : mg "isinstance" = none
theorem ok_law (F : Fun K "law" "law" s_law f fd) (T : TxtK6 mg)
    (C : Df P w K mg base CX0 1 "_law_cell_at" ["_law_script", "_law_k"] (spCell K) f1 d1) (Nm : Df P w K mg base CX0 1 "_law_names" ["_law_cell", "_law_many"] spNames f2 d2)
    (Ln : Df P w K mg base CX0 1 "_law_leans" ["_law_cells", "_law_names_here"] (spLeans K) f3 d3) (Ld : Df P w K mg base CX0 2 "led_to" ["name", "leans"] spLed f4 d4) : FnOk P w K mg base CX0 3 f fd ["_law_script"] (spLaw K) := by
  refine F.ok sc_law (fun vs H Q E h => ?_) (fun cdv A outer s H vs Q E hr h => ?_)
  · obtain ⟨a, ns, rfl, _⟩ := h
    rfl
  obtain ⟨a, ns, rfl, hS, h63, q⟩ := h
  have nd := sc_law.nd
  have hr1 : Room 1 _ := hr.mono (by decide)
  have hr2 : Room 2 _ := hr.mono (by decide)
  refine ⟨_, pss_cons (ps_set (i := 1) nd rfl (.inl rfl) (pe_call Nm.ok hr1 rfl Nm.m Nm.k Nm.b .nil pass0 (pa_cons (pe_call C.ok hr1 rfl C.m C.k C.b .nil pass0 (pa_cons (pv 0) (pa_cons pe_int pa_nil)))
      (pa_cons (pe_op op_add pe_int (pe_op op_mod (pe_call C.ok hr1 rfl C.m C.k C.b .nil pass0 (pa_cons (pv 0) (pa_cons pe_int pa_nil))) pe_int)) pa_nil))))
    (pss_cons (ps_set (i := 2) nd rfl (.inl rfl) (pe_call Ln.ok hr1 rfl Ln.m Ln.k Ln.b .nil pass0 (pa_cons (pe_slice sl_list (pv 0) (po_some pe_int) po_none) (pa_cons (pv 1) pa_nil))))
    (pss_cons (ps_set (i := 3) nd rfl (.inl rfl) (pe_ix ix_list (pe_op op_cat (pv 1) (pe_lst (pa_cons pe_str pa_nil))) (pe_op op_mod (pe_call C.ok hr1 rfl C.m C.k C.b .nil pass0 (pa_cons (pv 0) (pa_cons pe_int pa_nil))) (pe_op op_add (pe_callB call_len_seq (by rfl) T.len PySem.boot_len (pa_cons (pv 1) pa_nil)) pe_int)) (fun _ _ => rfl)))
    (pss_cons (ps_set (i := 4) nd rfl (.inl rfl) pe_int)
    (pss_cons (ps_set (i := 5) nd rfl (.inl rfl) (pe_callTy call_list_of (by rfl) T.list (by decide +kernel) (pa_cons (pe_dget2 (hu_of hr) (pv 2) (pv 3) (pe_lst pa_nil) ⟨rfl, rfl, rfl, rfl⟩) pa_nil)))
    (pss_cons (ps_while PassesOwn.never (pt_cmpR op_lt (pv 4) (pe_callB call_len_seq (by rfl) T.len PySem.boot_len (pa_cons (pv 5) pa_nil)) (nomark _))
      (pss_cons (ps_for PassesOwn.never rfl (pi_list (pe_dget2 (hu_of hr) (pv 2) (pe_ix ix_list (pv 5) (pv 4) (fun _ _ => rfl)) (pe_lst pa_nil) ⟨rfl, rfl, rfl, rfl⟩)) (pg_name (i := 6) nd rfl (.inl rfl))
        (pss_one (ps_if (pt_cmpR op_notIn_seq (pv 6) (pv 5) rfl) (pss_one (ps_set (i := 5) nd rfl (.inl rfl) (pe_op op_cat (pv 5) (pe_lst (pa_cons (pv 6) pa_nil))))) pss_nil)))
      (pss_one (ps_set (i := 4) nd rfl (.inl rfl) (pe_op op_add (pv 4) pe_int)))))
    (pss_cons (ps_set (i := 7) nd rfl (.inl rfl) pe_dnewK)
    (pss_cons (ps_lock (ps_for PassesOwn.never rfl (pi_keys (pv 2)) (pg_name (i := 8) nd rfl (.inl rfl))
      (pss_one (ps_dput (hu_of hr) (pv 7) (pv 8) (pe_callTy call_list_of (by rfl) T.list (by decide +kernel) (pa_cons (pe_dget (hu_of hr) (pv 2) (pv 8) (fun _ _ => rfl)) pa_nil)) rfl))))
    (pss_cons (ps_set (i := 9) nd rfl (.inl rfl) (pe_call Ld.ok hr2 rfl Ld.m Ld.k Ld.b .nil pass0 (pa_cons (pv 3) (pa_cons (pv 7) pa_nil))))
    (pss_cons (ps_set (i := 10) nd rfl (.inl rfl) (pe_lst pa_nil))
    (pss_cons (ps_for PassesOwn.never rfl (pi_list (pe_callB cr_sortedS (by rfl) T.sorted (by decide +kernel) (pa_cons (pv 5) pa_nil))) (pg_name (i := 8) nd rfl (.inl rfl))
      (pss_one (ps_if (pt_cmpR op_notIn_seq (pv 8) (pv 10) rfl) (pss_one (ps_expr (pe_bm PySem.F.plainAttrs_list PySem.F.slot_list_append PySem.F.type_list_append mt_append (pv 10) (pa_cons (pv 8) pa_nil)))) pss_nil)))
    (pss_one (ps_ret (pe_and (pe_callB call_isi (by rfl) T.isi (by decide +kernel) (pa_cons (pv 9) (pa_cons (pe_bltn (v := .ty "list") (by rfl) T.list (by decide +kernel) rfl) pa_nil))) (pe_and (pe_cmpR (op_eqD hr.units) (pv 9) (pv 10) (nomark _)) (pe_one (pe_cmpR (op_eqV hr.units) (pv 7) (pv 2) (nomark _))))))))))))))))), ?_⟩
  refine ⟨_, rfl, a, ns, 0, rfl, hS, h63, fun c0 => ?_⟩
  refine ⟨_, rfl, a, ns, 1, rfl, hS, h63, fun c1 => ?_⟩
  have m0 : 0 ≤ c1 % 9 := Int.emod_nonneg _ (by decide)
  have m1 : c1 % 9 < 9 := Int.emod_lt_of_pos _ (by decide)
  refine ⟨_, _, rfl, rfl, (by show (0 : Int) < 9; decide), _, _, rfl, rfl, c0, 1 + c1 % 9, rfl, by omega, by omega, fun l H1 nms s1 hl e1 hlen hok => ?_⟩
  have hS1 : SqL K H1 a (ns.map V.int) := s1.seq hS
  refine ⟨_, rfl, _, rfl, a, _, rfl, hS1, fun ps hps => ?_⟩
  obtain ⟨ns', ens, hns⟩ := cut_int ns (some 3)
  have s2 := same_new hps (.lst (cutV (ns.map V.int) (some 3) none))
  refine ⟨_, rfl, ps, ns', l, nms, rfl, SqL.of (by rw [← ens]; exact upd_same), by omega, s2 _ _ e1, by omega, by omega, fun D m H2 s3 hD L2 nk ht hm => ?_⟩
  have s23 := s2.trans s3
  have s123 := s1.trans s23
  have el2 := s23 _ _ e1
  refine ⟨_, rfl, (by show 1 ≤ sizeLine; decide), fun e0 he0 => ?_⟩
  have s4 := same_new he0 (.lst [.str "qqqqqq"])
  have el3 := s4 _ _ el2
  refine ⟨l, e0, _, _, rfl, rfl, el3, upd_same, ?_, fun p0 hp0 => ?_⟩
  · rw [List.length_map]; exact big (by show nms.length + 1 ≤ 100000; omega)
  have s5 := same_new hp0 (.lst (nms.map V.str ++ [.str "qqqqqq"]))
  have s45 := s4.trans s5
  have el4 := s5 _ _ el3
  have L4 := L2.mono s45
  refine ⟨_, rfl, a, ns, 2, rfl, (s123.trans s45).seq hS, h63, fun c2 => ?_⟩
  refine ⟨_, rfl, l, _, rfl, .inl (SqL.of el4), _, _, rfl, rfl, ?_⟩
  obtain ⟨s0, hs0, e5⟩ := at_mod (nms := nms ++ [("qqqqqq" : Str)]) (by rw [List.length_append]; exact Nat.le_add_left _ _) c2
  have e5' : atI (nms.map V.str ++ [.str "qqqqqq"]) (c2 % (((nms.map V.str).length : Nat) + 1)) = some (.str s0) := by
    rw [List.map_append, List.length_append] at e5
    exact e5
  refine ⟨_, _, rfl, rfl, (by show (0 : Int) < ((nms.map V.str).length : Nat) + 1; omega), p0, _, _, _, rfl, rfl, SqL.of upd_same, e5', ?_⟩
  refine ⟨_, rfl, D, rfl, .inl ⟨_, .inl L4.d⟩, _, rfl, (by show 0 ≤ sizeLine; decide), fun e1 he1 => ?_⟩
  have s6 := same_new he1 (.lst [])
  refine ⟨_, DGet.k (k := Sum.inr s0) (L4.mono s6).d, ?_⟩
  rw [kvL_val]
  obtain ⟨b0, eb0, hb0⟩ := get_at L4 s6 upd_same s0
  rw [eb0]
  refine ⟨b0, _, rfl, .inl (SqL.of hb0), fun pw hw => ?_⟩
  have s7 := same_new hw (.lst ((lof m s0).map V.str))
  have L6 := (L4.mono s6).mono s7
  generalize hHW : upd (upd (upd (upd H2 e0 (.lst [.str "qqqqqq"])) p0 (.lst (nms.map V.str ++ [.str "qqqqqq"]))) e1 (.lst [])) pw (.lst ((lof m s0).map V.str)) = HW at *
  have ew : HW pw = some (.lst ((lof m s0).map V.str)) := by rw [← hHW]; exact upd_same
  refine ⟨fun n σ H' => ∃ (k : Nat) (due : List Str) (l5 : Addr) (v6 : Option V), σ = [some (.ref a), some (.ref l), some (.ref D), some (.str s0), some (.int k), some (.ref l5), v6, none, none, none, none] ∧ n = tot m - k ∧ Same HW H' ∧ H' l5 = some (.lst (due.map V.str)) ∧ Bfs m s0 due k,
    ⟨_, 0, lof m s0, pw, none, rfl, rfl, .refl _, ew, Bfs.start m s0⟩, ?_⟩
  rintro n σ HX ⟨k, due, l5, v6, rfl, rfl, sX, eX, bf⟩
  have dl := bf.len
  refine ⟨_, rfl, _, rfl, l5, _, rfl, .inl (SqL.of eX), _, _, rfl, rfl, _, rfl, ?_⟩
  by_cases ck : k < due.length
  · rw [show decide ((k : Int) < (((due.map V.str).length : Nat) : Int)) = true from decide_eq_true (by rw [List.length_map]; omega)]
    refine iteT ?_
    refine ⟨fun σ' H' => ∃ (due' : List Str) (l5' : Addr) (v6' : Option V), σ' = [some (.ref a), some (.ref l), some (.ref D), some (.str s0), some (.int (k + 1 : Nat)), some (.ref l5'), v6', none, none, none, none] ∧ Same HW H' ∧ H' l5' = some (.lst (due'.map V.str)) ∧ Bfs m s0 due' (k + 1), ?_, ?_⟩
    · rintro σ' H' ⟨due', l5', v6', rfl, a1, a2, a3⟩
      exact ⟨tot m - (k + 1), by omega, _, due', l5', v6', rfl, rfl, a1, a2, a3⟩
    have LX := L6.mono sX
    refine ⟨_, rfl, D, rfl, .inl ⟨_, .inl LX.d⟩, _, rfl, _, rfl, l5, _, _, .str due[k], rfl, rfl, SqL.of eX, atI_nat (by rw [List.getElem?_map, List.getElem?_eq_getElem ck]; rfl), (by show 0 ≤ sizeLine; decide), fun e7 he7 => ?_⟩
    have s8 := same_new he7 (.lst [])
    refine ⟨_, DGet.k (k := Sum.inr due[k]) (LX.mono s8).d, ?_⟩
    rw [kvL_val]
    obtain ⟨b1, eb1, hb1⟩ := get_at LX s8 upd_same due[k]
    rw [eb1]
    have sX8 := sX.trans s8
    have eX8 := s8 _ _ eX
    generalize upd HX e7 (.lst []) = HY at *
    have hk : due[k]? = some due[k] := List.getElem?_eq_getElem ck
    refine ⟨b1, rfl, ⟨_, SqL.of hb1⟩, for_list (K := K) (a := b1) (xs := (lof m due[k]).map V.str) (fun i σ H' => ∃ (due' : List Str) (l5' : Addr) (v6' : Option V), σ = [some (.ref a), some (.ref l), some (.ref D), some (.str s0), some (.int k), some (.ref l5'), v6', none, none, none, none] ∧ Same HY H' ∧ H' l5' = some (.lst (due'.map V.str)) ∧ Bfs1 m s0 due due' k (lof m due[k]) i)
      ⟨due, l5, v6, rfl, .refl _, eX8, .start bf _⟩ (fun i σ H' _ ⟨_, _, _, _, s, _⟩ => SqL.of (s _ _ hb1)) ?_ ?_⟩
    · rintro i x σ HZ hi ⟨due', l5', v6', rfl, sZ, eZ, b1z⟩
      obtain ⟨y, hy, rfl⟩ : ∃ y, (lof m due[k])[i]? = some y ∧ x = V.str y := by
        rw [List.getElem?_map] at hi
        cases ez : (lof m due[k])[i]? with
        | none => rw [ez] at hi; cases hi
        | some z => rw [ez] at hi; exact ⟨z, rfl, (Option.some.inj hi).symm⟩
      have nx := b1z.step hk hy
      have ln := b1z.b.len
      refine ⟨_, rfl, _, rfl, l5', _, rfl, .inl (SqL.of eZ), rfl, flat_strs _, _, rfl, ?_⟩
      rw [in_strs]
      by_cases c : y ∈ due'
      · rw [decide_eq_true c]
        have ea : addN due' y = due' := by unfold addN; rw [if_pos c]
        rw [ea] at nx
        exact iteF ⟨due', l5', _, rfl, sZ, eZ, nx⟩
      · rw [decide_eq_false c]
        have ea : addN due' y = due' ++ [y] := by unfold addN; rw [if_neg c]
        rw [ea] at nx
        refine iteT ⟨_, rfl, _, rfl, (by show 1 ≤ sizeLine; decide), fun e9 he9 => ?_⟩
        have s9 := same_new he9 (.lst [.str y])
        refine ⟨l5', e9, _, _, rfl, rfl, s9 _ _ eZ, upd_same, ?_, fun p9 hp9 => ?_⟩
        · rw [List.length_map]; exact big (by show due'.length + 1 ≤ 100000; omega)
        · exact ⟨due' ++ [y], p9, _, rfl, (sZ.trans s9).trans (same_new hp9 _), by rw [upd_same, List.map_append]; rfl, nx⟩
    · rintro σ HZ ⟨due', l5', v6', rfl, sZ, eZ, b1z⟩
      refine ⟨_, rfl, _, _, rfl, rfl, ?_⟩
      refine ⟨due', l5', v6', rfl, sX8.trans sZ, eZ, b1z.done hk (by rw [List.length_map]; exact Nat.le_refl _)⟩
  · rw [show decide ((k : Int) < (((due.map V.str).length : Nat) : Int)) = false from decide_eq_false (by rw [List.length_map]; omega)]
    refine iteF ?_
    have dn := bf.done ck
    have LX := L6.mono sX
    refine fun HD hHD => ?_
    have sd := same_new hHD (.dK [])
    have LD := LX.mono sd
    have eD := sd _ _ eX
    have nD : D ≠ HD := ne_of_none LX.d hHD
    refine ⟨D, .dK (kvL m), LD.d, True.intro, fun od => ?_⟩
    refine ⟨_, rfl, D, od, rfl, .inl ⟨_, upd_same, for_it walk_keys (fun i σ H' => ∃ (v8 : Option V) (mh : LM), σ = [some (.ref a), some (.ref l), some (.ref D), some (.str s0), some (.int k), some (.ref l5), v6, some (.ref HD), v8, none, none] ∧ H' D = some (.frz od (.dK (kvL m))) ∧ LAt H' HD mh ∧ SameM mh (m.take i) ∧ ∀ b o, HX b = some o → b ≠ D → H' b = some o)
      ⟨none, [], rfl, upd_same, ⟨by rw [upd_ne nD.symm]; exact upd_same, fun p hp => by cases hp⟩, rfl, fun b o hb hn => by rw [upd_ne hn]; exact sd _ _ hb⟩ (fun i σ H' _ ⟨_, _, _, e, _⟩ => e) ?_ ?_⟩⟩
    · rintro i x σ HA HB hi ⟨v8, mh, rfl, eD', LH, sm, ex⟩ ⟨rfl, kk, v, hkv, rfl⟩
      have hi' : i < m.length := by unfold kvL at hi; rwa [List.length_map] at hi
      have hmi : m[i]? = some m[i] := List.getElem?_eq_getElem hi'
      unfold kvL at hkv
      rw [List.getElem?_map, hmi] at hkv
      cases hkv
      have hm' : m[i] ∈ m := List.getElem_mem hi'
      have lk := mem_lkp nk hm'
      have nt : m[i].1 ∉ keysM mh := by rw [sm.keys]; exact not_tk nk hmi
      have el9 : HB m[i].2.1 = some (.lst (m[i].2.2.map V.str)) := ex _ _ (LX.l _ hm') (ne_of (LX.l _ hm') LX.d (by intro z; cases z))
      have hlen : mh.length ≤ 20 := by
        have h1 := sm.len
        have h2 : (keysM m).length ≤ nms.length := nodup_sub nk fun x hx => by
          obtain ⟨p, hp, e⟩ := List.mem_map.mp hx
          rw [← e]; exact (hm p hp).1
        unfold keysM at h2
        rw [List.length_map] at h2
        rw [List.length_take] at h1
        omega
      refine ⟨_, rfl, _, rfl, D, .ref m[i].2.1, rfl, .inl ⟨_, Sum.inr m[i].1, .inr ⟨od, eD'⟩, rfl, by rw [kvL_val, lk]; rfl⟩, ?_⟩
      refine ⟨_, _, rfl, .inl (SqL.of el9), fun qn hqn => ?_⟩
      have sq := same_new hqn (.lst (m[i].2.2.map V.str))
      have LH2 := LH.mono sq
      refine ⟨_, rfl, _, rfl, HD, _, rfl, DPut.k (k := Sum.inr m[i].1) LH2.d (by unfold kvL; rw [List.length_map]; exact small1000 (by omega)), ?_⟩
      rw [kvL_put mh m[i].1 (qn, m[i].2.2), putM_new nt]
      have nq : HD ≠ qn := ne_of_none LH.d hqn
      refine ⟨_, mh ++ [(m[i].1, qn, m[i].2.2)], rfl, by rw [upd_ne nD]; exact sq _ _ eD', ⟨upd_same, fun p hp => ?_⟩, ?_, fun b o hb hn => ?_⟩
      · rcases List.mem_append.mp hp with z | z
        · rw [upd_ne (ne_of (LH2.l p z) LH2.d (by intro w; cases w))]
          exact LH2.l p z
        · rw [List.mem_singleton.mp z, upd_ne nq.symm]
          exact upd_same
      · unfold SameM at sm ⊢
        rw [take_more hmi, List.map_append, List.map_append, sm]
        rfl
      · rw [upd_ne (ne_of_none hb hHD)]
        exact sq _ _ (ex b o hb hn)
    · rintro σ HA ⟨v8, mh, rfl, eD', LH, sm, ex⟩
      have sm' : SameM mh m := by unfold kvL at sm; rwa [List.length_map, List.take_length] at sm
      refine ⟨eD', ?_⟩
      have LB : LAt (upd HA D (.dK (kvL m))) HD mh := ⟨by rw [upd_ne nD.symm]; exact LH.d, fun p hp => by rw [upd_ne (ne_of (LH.l p hp) eD' (by intro z; cases z))]; exact LH.l p hp⟩
      have LB2 : LAt (upd HA D (.dK (kvL m))) D m := ⟨upd_same, fun p hp => by
        have nn := ne_of (LX.l p hp) LX.d (by intro z; cases z)
        rw [upd_ne nn]; exact ex _ _ (LX.l p hp) nn⟩
      have eB : (upd HA D (.dK (kvL m))) l5 = some (.lst (due.map V.str)) := by
        have nn := ne_of eX LX.d (by intro z; cases z)
        rw [upd_ne nn]; exact ex _ _ eX nn
      generalize upd HA D (.dK (kvL m)) = HB at *
      refine ⟨_, rfl, _, rfl, s0, HD, mh, rfl, LB, by rw [sm'.tot]; omega, fun pf ys HC sC hnf ef ynd yp yx => ?_⟩
      refine ⟨(by show 0 ≤ sizeLine; decide), fun po hpo => ?_⟩
      have so := same_new hpo (.lst [])
      have nfo : pf ≠ po := ne_of_none ef hpo
      refine ⟨_, rfl, l5, due, rfl, SqL.of (so _ _ (sC _ _ eB)), by omega, fun zs pz hp hs hpz => ?_⟩
      have npz : po ≠ pz := ne_of_none upd_same hpz
      refine ⟨pz, rfl, ⟨_, SqL.of upd_same⟩, for_list (K := K) (a := pz) (xs := zs.map V.str) (fun i σ H' => ∃ (v8 : Option V), σ = [some (.ref a), some (.ref l), some (.ref D), some (.str s0), some (.int k), some (.ref l5), v6, some (.ref HD), v8, some (.ref pf), some (.ref po)] ∧ Same HC H' ∧ H' pz = some (.lst (zs.map V.str)) ∧ H' po = some (.lst ((once (zs.take i)).map V.str)))
        ⟨v8, rfl, so.trans (same_new hpz _), upd_same, by rw [upd_ne npz]; exact upd_same⟩ (fun i σ H' _ ⟨_, _, _, e, _⟩ => SqL.of e) ?_ ?_⟩
      · rintro i x σ HE hi ⟨v8', rfl, sE, ez, eo⟩
        obtain ⟨z, hz, rfl⟩ : ∃ z, zs[i]? = some z ∧ x = V.str z := by
          rw [List.getElem?_map] at hi
          cases ez : zs[i]? with
          | none => rw [ez] at hi; cases hi
          | some z => rw [ez] at hi; exact ⟨z, rfl, (Option.some.inj hi).symm⟩
        have ol6 := once_len (zs.take i)
        rw [List.length_take] at ol6
        have zl := hp.length_eq
        refine ⟨_, rfl, _, rfl, po, _, rfl, .inl (SqL.of eo), rfl, flat_strs _, _, rfl, ?_⟩
        rw [in_strs]
        by_cases c : z ∈ once (zs.take i)
        · rw [decide_eq_true c]
          refine iteF ⟨some (.str z), rfl, sE, ez, ?_⟩
          rw [eo, once_take hz]
          unfold addN
          rw [if_pos c]
        · rw [decide_eq_false c]
          refine iteT ⟨_, rfl, .inl ⟨rfl, _, SqL.of eo⟩, _, rfl, po, _, _, rfl, rfl, eo, small1000 (by rw [List.length_map]; omega), some (.str z), rfl, same_upd sE hpo _, (by rw [upd_ne npz.symm]; exact ez), ?_⟩
          rw [upd_same, once_take hz]
          unfold addN
          rw [if_neg c, List.map_append]
          rfl
      · rintro σ HE ⟨v8', rfl, sE, ez, eo⟩
        rw [List.length_map, List.take_length] at eo
        have efE := sE _ _ ef
        have lf : ∀ s, lof mh s = lof m s := sm'.lof
        have ey : ys = once zs := srt_same yp (once_pair (sorted_pair hs)) ynd (once_nodup _) fun x => by
          rw [yx, mem_once, hp.mem_iff, dn, show lof mh = lof m from funext lf]
        have yok : ∀ s ∈ ys, NameOk s := fun s hs => by
          have r := (yx s).mp hs
          rw [show lof mh = lof m from funext lf] at r
          obtain ⟨li, h1, h2⟩ := List.mem_flatten.mp r.uni
          obtain ⟨p, hp, e⟩ := List.mem_map.mp h1
          subst e
          exact hok s ((hm p hp).2 s h2)
        refine ⟨_, rfl, _, _, _, _, true, rfl, .ty _, .base (.lst efE), kit_ty (by decide +kernel), _, rfl, ?_⟩
        refine iteT ?_
        refine ⟨_, rfl, _, rfl, _, _, .lst (SqL.of efE) (dp_strs _), .lst (SqL.of eo) (dp_strs _), shaped_strs yok, (by rw [← ey]; exact shaped_strs yok), _, rfl, ?_⟩
        rw [← ey, eqv_strs yok]
        refine iteT ?_
        refine ⟨_, rfl, _, rfl, 2, by decide, eq_dicts (LB.mono (sC.trans sE)) (LB2.mono (sC.trans sE)) sm' (by rw [sm'.keys]; exact nk), q _⟩
end
end Aw

namespace Aw
open PySem L2
theorem all_mk {l : PySem.W.OpenLaw} {w : World} {K : PySem.W.Frag} {h : Heap} {mg : Str → Option Value} {fa : Addr} (X : K.In h) (G : h.Ns mainGlobals mg) (hfa : mg "law" = some (.ref fa))
    {f_led_to : Addr} {od_led_to an_led_to : Option Addr} {sl_led_to : Array (Option Value)} {oc_led_to kV_led_to dc_led_to pm_led_to cd_led_to ct_led_to : Value}
    {f_reached : Addr} {od_reached an_reached : Option Addr} {sl_reached : Array (Option Value)} {oc_reached kV_reached dc_reached pm_reached cd_reached ct_reached : Value}
    {f_law_cell_at : Addr} {od_law_cell_at an_law_cell_at : Option Addr} {sl_law_cell_at : Array (Option Value)} {oc_law_cell_at kV_law_cell_at dc_law_cell_at pm_law_cell_at cd_law_cell_at ct_law_cell_at : Value}
    {f_law_names : Addr} {od_law_names an_law_names : Option Addr} {sl_law_names : Array (Option Value)} {oc_law_names kV_law_names dc_law_names pm_law_names cd_law_names ct_law_names : Value}
    {f_law_leans : Addr} {od_law_leans an_law_leans : Option Addr} {sl_law_leans : Array (Option Value)} {oc_law_leans kV_law_leans dc_law_leans pm_law_leans cd_law_leans ct_law_leans : Value}
    {f_law : Addr} {od_law an_law : Option Addr} {sl_law : Array (Option Value)} {oc_law kV_law dc_law pm_law cd_law ct_law : Value}
    (a_led_to : PySem.W.nsIn K mainGlobals "led_to" = some (some (.ref f_led_to)))
    (l_led_to : K.lookup f_led_to = some ⟨oc_led_to, od_led_to, .func (PySem.W.fnOf "led_to" "led_to" (defArgs s_led_to) (defBody s_led_to) (defScope s_led_to) .none kV_led_to dc_led_to pm_led_to an_led_to cd_led_to ct_led_to), sl_led_to⟩) (c_led_to : PySem.W.codeIn K cd_led_to "led_to" = true) (k_led_to : PySem.W.keepIn K (.ref f_led_to) = true)
    (a_reached : PySem.W.nsIn K mainGlobals "reached" = some (some (.ref f_reached)))
    (l_reached : K.lookup f_reached = some ⟨oc_reached, od_reached, .func (PySem.W.fnOf "reached" "reached" (defArgs s_reached) (defBody s_reached) (defScope s_reached) .none kV_reached dc_reached pm_reached an_reached cd_reached ct_reached), sl_reached⟩) (c_reached : PySem.W.codeIn K cd_reached "reached" = true) (k_reached : PySem.W.keepIn K (.ref f_reached) = true)
    (a_law_cell_at : PySem.W.nsIn K mainGlobals "_law_cell_at" = some (some (.ref f_law_cell_at)))
    (l_law_cell_at : K.lookup f_law_cell_at = some ⟨oc_law_cell_at, od_law_cell_at, .func (PySem.W.fnOf "_law_cell_at" "_law_cell_at" (defArgs s_law_cell_at) (defBody s_law_cell_at) (defScope s_law_cell_at) .none kV_law_cell_at dc_law_cell_at pm_law_cell_at an_law_cell_at cd_law_cell_at ct_law_cell_at), sl_law_cell_at⟩) (c_law_cell_at : PySem.W.codeIn K cd_law_cell_at "_law_cell_at" = true) (k_law_cell_at : PySem.W.keepIn K (.ref f_law_cell_at) = true)
    (a_law_names : PySem.W.nsIn K mainGlobals "_law_names" = some (some (.ref f_law_names)))
    (l_law_names : K.lookup f_law_names = some ⟨oc_law_names, od_law_names, .func (PySem.W.fnOf "_law_names" "_law_names" (defArgs s_law_names) (defBody s_law_names) (defScope s_law_names) .none kV_law_names dc_law_names pm_law_names an_law_names cd_law_names ct_law_names), sl_law_names⟩) (c_law_names : PySem.W.codeIn K cd_law_names "_law_names" = true) (k_law_names : PySem.W.keepIn K (.ref f_law_names) = true)
    (a_law_leans : PySem.W.nsIn K mainGlobals "_law_leans" = some (some (.ref f_law_leans)))
    (l_law_leans : K.lookup f_law_leans = some ⟨oc_law_leans, od_law_leans, .func (PySem.W.fnOf "_law_leans" "_law_leans" (defArgs s_law_leans) (defBody s_law_leans) (defScope s_law_leans) .none kV_law_leans dc_law_leans pm_law_leans an_law_leans cd_law_leans ct_law_leans), sl_law_leans⟩) (c_law_leans : PySem.W.codeIn K cd_law_leans "_law_leans" = true) (k_law_leans : PySem.W.keepIn K (.ref f_law_leans) = true)
    (a_law : PySem.W.nsIn K mainGlobals "law" = some (some (.ref f_law)))
    (l_law : K.lookup f_law = some ⟨oc_law, od_law, .func (PySem.W.fnOf "law" "law" (defArgs s_law) (defBody s_law) (defScope s_law) .none kV_law dc_law pm_law an_law cd_law ct_law), sl_law⟩) (c_law : PySem.W.codeIn K cd_law "law" = true) (k_law : PySem.W.keepIn K (.ref f_law) = true)
    (z_len : PySem.W.nsIn K mainGlobals "len" = some none)
    (z_int : PySem.W.nsIn K mainGlobals "int" = some none)
    (z_range : PySem.W.nsIn K mainGlobals "range" = some none)
    (z_str : PySem.W.nsIn K mainGlobals "str" = some none)
    (z_list : PySem.W.nsIn K mainGlobals "list" = some none)
    (z_sorted : PySem.W.nsIn K mainGlobals "sorted" = some none)
    (z_isi : PySem.W.nsIn K mainGlobals "isinstance" = some none)
    : ∃ fd : FuncData, (∀ (s : Shared) (v : Value), BindsTo s fd ⟨[v], []⟩ [("_law_script", v)]) ∧ ∀ base : Heap, K.In base → base.Ns mainGlobals mg → FnOk l.prog w K mg base CX0 3 fa fd ["_law_script"] (spLaw K) := by
  have e := hfa.symm.trans (PySem.W.mg_of X G a_law)
  cases e
  have F_led_to := fun_mk (st := s_led_to) l_led_to c_led_to k_led_to
  have b_led_to := F_led_to.binds (ps := ["name", "leans"]) fun _ _ _ _ _ _ us hl => match us, hl with | [_, _], _ => rfl
  have F_reached := fun_mk (st := s_reached) l_reached c_reached k_reached
  have b_reached := F_reached.binds (ps := ["name", "leans"]) fun _ _ _ _ _ _ us hl => match us, hl with | [_, _], _ => rfl
  have F_law_cell_at := fun_mk (st := s_law_cell_at) l_law_cell_at c_law_cell_at k_law_cell_at
  have b_law_cell_at := F_law_cell_at.binds (ps := ["_law_script", "_law_k"]) fun _ _ _ _ _ _ us hl => match us, hl with | [_, _], _ => rfl
  have F_law_names := fun_mk (st := s_law_names) l_law_names c_law_names k_law_names
  have b_law_names := F_law_names.binds (ps := ["_law_cell", "_law_many"]) fun _ _ _ _ _ _ us hl => match us, hl with | [_, _], _ => rfl
  have F_law_leans := fun_mk (st := s_law_leans) l_law_leans c_law_leans k_law_leans
  have b_law_leans := F_law_leans.binds (ps := ["_law_cells", "_law_names_here"]) fun _ _ _ _ _ _ us hl => match us, hl with | [_, _], _ => rfl
  have F_law := fun_mk (st := s_law) l_law c_law k_law
  have b_law := F_law.binds (ps := ["_law_script"]) fun _ _ _ _ _ _ us hl => match us, hl with | [_], _ => rfl
  have TL : TxtL K mg := ⟨PySem.W.mg_none_of X G z_len, PySem.W.mg_none_of X G z_int, PySem.W.mg_none_of X G z_range, PySem.W.mg_none_of X G z_str⟩
  have T6 : TxtK6 mg := ⟨PySem.W.mg_none_of X G z_len, PySem.W.mg_none_of X G z_list, PySem.W.mg_none_of X G z_sorted, PySem.W.mg_none_of X G z_isi⟩
  refine ⟨PySem.W.fnOf "law" "law" (defArgs s_law) (defBody s_law) (defScope s_law) .none kV_law dc_law pm_law an_law cd_law ct_law, fun s v => .of_eq rfl, fun base _ _ => ?_⟩
  have GR : FnOk l.prog w K mg base CX0 1 f_reached _ ["name", "leans"] spReached := ok_reached F_reached (PySem.W.mg_none_of X G z_list)
  have GL := ok_led (P := l.prog) (w := w) (base := base) F_led_to (PySem.W.mg_none_of X G z_sorted) GR b_reached k_reached (PySem.W.mg_of X G a_reached)
  exact ok_law F_law T6 ⟨ok_cell F_law_cell_at TL, b_law_cell_at, k_law_cell_at, PySem.W.mg_of X G a_law_cell_at⟩ ⟨ok_names F_law_names TL, b_law_names, k_law_names, PySem.W.mg_of X G a_law_names⟩
    ⟨ok_leans F_law_leans (PySem.W.mg_none_of X G z_len), b_law_leans, k_law_leans, PySem.W.mg_of X G a_law_leans⟩ ⟨GL, b_led_to, k_led_to, PySem.W.mg_of X G a_led_to⟩
theorem walk {l : PySem.W.OpenLaw} {q : Program} {loose : List Str} {XP : (Str → Option Value) → Heap → Prop} {YP : World → Heap → Prop} {d : DefRec} {K : Params → PySem.W.Frag} (hn : l.most = some 63) (hdf : d.params.defaults = [])
    (hY : ∀ (w : World) (h : Heap), YP w h → (K w.params).In h)
    (F : ∀ (w : World) (mg : Str → Option Value) (fa : Addr) (h : Heap), (K w.params).In h → h.Ns mainGlobals mg → mg d.name = some (.ref fa) →
      ∃ fd : FuncData, (∀ (s : Shared) (u : Value), BindsTo s fd ⟨[u], []⟩ [("_law_script", u)]) ∧ ∀ base : Heap, (K w.params).In base → base.Ns mainGlobals mg → FnOk l.prog w (K w.params) mg base CX0 3 fa fd ["_law_script"] (spLaw (K w.params))) :
    PySem.W.WalkO q loose XP YP l.row.toRowW d [] (fun f vs => PySem.call f vs) :=
  L2.walk_of (n := 63) (k := 3) (x := "_law_script") (CX := fun _ => CX0) (sp := fun w => spLaw (K w.params)) hn (by decide) hdf ⟨rfl, by decide, by decide⟩ hY F (fun _ _ a ns hl _ hS => ⟨a, ns, rfl, hS, hl, fun _ => rfl⟩) fun _ _ _ _ _ z => z
end Aw
open PySem PySem.W PyProof.Rows
set_option maxRecDepth 100000 in
set_option maxHeartbeats 0 in
theorem PySem.Challenge.cw_anewhall_k06_where_names_lead_holds : PySem.Challenge.rw_anewhall_k06_where_names_lead.Holds := by
  w_on; o_law; k_head; (case hw => w_witness2)
  k_fill
  refine Aw.walk (l := PySem.Challenge.rw_anewhall_k06_where_names_lead) rfl rfl (fun w h Y => PySem.W.kIn_of Y) ?F
  case F =>
    intro w mg fa h KX G hmg
    refine' Aw.all_mk KX G hmg ?a_led_to ?l_led_to ?c_led_to ?k_led_to ?a_reached ?l_reached ?c_reached ?k_reached ?a_law_cell_at ?l_law_cell_at ?c_law_cell_at ?k_law_cell_at ?a_law_names ?l_law_names ?c_law_names ?k_law_names ?a_law_leans ?l_law_leans ?c_law_leans ?k_law_leans ?a_law ?l_law ?c_law ?k_law ?z_len ?z_int ?z_range ?z_str ?z_list ?z_sorted ?z_isi
    (case z_len => k_is)
    (case z_int => k_is)
    (case z_range => k_is)
    (case z_str => k_is)
    (case z_list => k_is)
    (case z_sorted => k_is)
    (case z_isi => k_is)
    (case a_led_to => k_is)
    (case l_led_to => k_is)
    (case c_led_to => k_is)
    (case k_led_to => k_is)
    (case a_reached => k_is)
    (case l_reached => k_is)
    (case c_reached => k_is)
    (case k_reached => k_is)
    (case a_law_cell_at => k_is)
    (case l_law_cell_at => k_is)
    (case c_law_cell_at => k_is)
    (case k_law_cell_at => k_is)
    (case a_law_names => k_is)
    (case l_law_names => k_is)
    (case c_law_names => k_is)
    (case k_law_names => k_is)
    (case a_law_leans => k_is)
    (case l_law_leans => k_is)
    (case c_law_leans => k_is)
    (case k_law_leans => k_is)
    (case a_law => k_is)
    (case l_law => k_is)
    (case c_law => k_is)
    (case k_law => k_is)

