package seal

import (
	"slices"

	"orlop/api"
	"orlop/word"
)

const (
	mark     = 1                 // what a head begins with
	sizeFrom = 1 + api.PrefixLen // where in a head the chunks' size is
)

// head is what a sealed layer begins with: the nonces' prefix and the chunks' size. It stands beside each chunk, too.
type head []byte

func newHead(prefix []byte, size int) head {
	return slices.Concat([]byte{mark}, prefix, word.Big32(uint32(size)))
}

func (h head) prefix() []byte { return h[1:sizeFrom] }

func (h head) size() int { return int(word.GetBig32(h[sizeFrom:])) }

// nonce: a chunk's. It tells the chunk's place and whether it is the last one, so that no chunk is opened in another place, nor ahead of chunks that were cut off.
func (h head) nonce(number int, last bool) []byte {
	end := byte(0)
	if last {
		end = 1
	}
	return slices.Concat(h.prefix(), word.Big32(uint32(number)), []byte{end})
}

// parts: the head of a sealed layer, what is behind it, and whether that may be. A box that hides nothing may be the only one: otherwise a layer could be sealed in two ways.
func parts(sealed []byte) (head, []byte, bool) {
	if len(sealed) < api.HeadLen || sealed[0] != mark {
		return nil, nil, false
	}
	h, boxes := head(sealed[:api.HeadLen]), sealed[api.HeadLen:]
	if !isSize(h.size()) {
		return nil, nil, false
	}
	boxLen := h.size() + api.TagLen
	ahead := (pieces(len(boxes), boxLen) - 1) * boxLen
	hidden := len(boxes) - ahead - api.TagLen // how many bytes the last box hides
	return h, boxes, hidden > 0 || hidden == 0 && ahead == 0
}
