package store

import (
	"strongroom/api"
	"strongroom/pack"
)

// Directory of blobs, in the order that they are given in.
func Directory(l []api.Blob) []byte {
	b := pack.Natural(nil, uint64(len(l)))
	for _, x := range l {
		// Behind one another: package pack would copy all that is there
		// already for each number.
		b = append(b, entry(x)...)
	}
	return b
}

// entry answers what the directory says of a blob. The page's Key isn't said:
// it is the blob's.
func entry(x api.Blob) []byte {
	b := pack.Text(nil, x.Name)
	for _, n := range [...]int{x.Key.Tenant, x.Key.Column, x.Key.Epoch, x.Block, x.Page.Id, x.Page.Version, x.Size} {
		b = pack.Number(b, n)
	}
	return b
}

// Parse a directory, and say whether it is one.
func Parse(b []byte) ([]api.Blob, bool) {
	r := pack.Open(b)
	n, ok := r.Natural()
	if !ok || n > api.MaxBlobs {
		return nil, false
	}
	l := make([]api.Blob, 0, n)
	for range n {
		x, ok := readEntry(r)
		if !ok {
			return nil, false
		}
		l = append(l, x)
	}
	if !r.Done() || !rising(l) || !apart(l) {
		return nil, false
	}
	return l, true
}

// readEntry reads what the directory says of a blob, and answers whether a
// store may have such a one.
func readEntry(r *pack.Reader) (api.Blob, bool) {
	var x api.Blob
	var ok bool
	if x.Name, ok = r.Text(); !ok {
		return api.Blob{}, false
	}
	for _, to := range [...]*int{&x.Key.Tenant, &x.Key.Column, &x.Key.Epoch, &x.Block, &x.Page.Id, &x.Page.Version, &x.Size} {
		if *to, ok = r.Number(); !ok {
			return api.Blob{}, false
		}
	}
	x.Page.Key = x.Key
	return x, rightBlob(x)
}

// rightBlob answers whether a store may have a blob.
func rightBlob(x api.Blob) bool {
	return rightName(x.Name) && rightKey(x.Key) &&
		x.Block >= rootBlocks && x.Block < api.MaxBlocks &&
		x.Page.Id >= 0 && x.Page.Version >= 0 &&
		x.Size >= 0 && x.Size <= api.MaxPlain
}

// rightName answers whether a blob may have a name.
func rightName(name string) bool {
	return len(name) >= 1 && len(name) <= api.MaxName
}

// rightKey answers whether something can be sealed with a key.
func rightKey(k api.Key) bool {
	return k.Tenant >= 0 && k.Column >= 0 && k.Epoch >= 0
}

// rising answers whether each name stands behind the one ahead of it.
func rising(l []api.Blob) bool {
	for i := range l {
		if i > 0 && l[i].Name <= l[i-1].Name {
			return false
		}
	}
	return true
}

// apart answers whether no two blobs stand on one block.
func apart(l []api.Blob) bool {
	blocks := make(map[int]struct{}, len(l))
	for _, x := range l {
		blocks[x.Block] = struct{}{}
	}
	return len(blocks) == len(l)
}
