package audit

import (
	"culet/api"
	"culet/lexer"
	"culet/parcel"
)

// The greatest numbers of a piece.
const (
	maxWeight = 1000000
	maxCount  = 1000
)

func rightPiece(p api.Piece) bool {
	return lexer.IsName(p.ID) && lexer.IsName(p.Material) && p.Weight >= 1 && p.Weight <= maxWeight && p.Count >= 1 && p.Count <= maxCount
}

// rightParcel returns the pieces of a parcel by their identifiers, and whether it is one.
func rightParcel(l []api.Piece) (map[string]api.Piece, bool) {
	pieces := map[string]api.Piece{}
	for i, p := range l {
		if !rightPiece(p) || i > 0 && l[i-1].ID >= p.ID {
			return nil, false
		}
		pieces[p.ID] = p
	}
	return pieces, len(l) <= parcel.MaxPieces
}

// ledger keeps the pieces that are there by their identifiers.
type ledger map[string]api.Piece

// enter carries out an entry with just the fields of its kind, if it is possible and permitted.
func (b ledger) enter(x parcel.Entry) bool {
	p, found := b[x.ID]
	to, taken := b[x.To]
	switch x {
	case parcel.Entry{Kind: parcel.In, Piece: x.Piece}:
		_, taken = b[x.Piece.ID]
		b[x.Piece.ID] = x.Piece
		return rightPiece(x.Piece) && !taken && len(b) <= parcel.MaxPieces
	case parcel.Entry{Kind: parcel.Out, ID: x.ID}:
		delete(b, x.ID)
		return found
	case parcel.Entry{Kind: parcel.Split, ID: x.ID, To: x.To, Weight: x.Weight, Count: x.Count}:
		part := api.Piece{ID: x.To, Material: p.Material, Weight: x.Weight, Count: x.Count}
		b[x.To] = part
		rest := p
		rest.Weight, rest.Count = p.Weight-x.Weight, p.Count-x.Count
		ok := found && !taken && len(b) <= parcel.MaxPieces && x.Weight < p.Weight && x.Count < p.Count && rightPiece(part)
		b[x.ID] = rest
		return ok
	case parcel.Entry{Kind: parcel.Join, ID: x.ID, To: x.To}:
		to.Weight += p.Weight
		to.Count += p.Count
		b[x.To] = to
		delete(b, x.ID)
		return found && taken && x.ID != x.To && p.Material == to.Material && rightPiece(to)
	case parcel.Entry{Kind: parcel.Loss, ID: x.ID, Weight: x.Weight}:
		p.Weight -= x.Weight
		b[x.ID] = p
		return found && x.Weight >= 1 && p.Weight >= 1
	}
	return false
}

// Ledger returns OK if a ledger holds.
func Ledger(before []api.Piece, book []parcel.Entry, after []api.Piece) api.Errno {
	if len(book) > parcel.MaxEntries {
		return api.ErrLimit
	}
	there, ok := rightParcel(before)
	end, okEnd := rightParcel(after)
	if !ok || !okEnd {
		return api.ErrArg
	}
	carry := func(x parcel.Entry) bool { return ledger(there).enter(x) }
	for _, x := range book {
		if !carry(x) {
			return api.ErrState
		}
	}
	if len(there) != len(end) {
		return api.ErrProof
	}
	for id, p := range there {
		if end[id] != p {
			return api.ErrProof
		}
	}
	return api.OK
}
